/- VolleyAgrees: the walk. -/
import Derived.Test.YtpenicjlpiechaaDoorVoLw
import Derived.WalkKit
import Derived.WalkSpells
import Derived.WalkLawsBesides
namespace Go.Proofs.YtpenicjlpiechaaDoor.volleyAgrees
set_option maxRecDepth 10000
open Go Go.RowKit
set_option linter.unusedVariables false
set_option linter.unusedSimpArgs false

set_option maxHeartbeats 8000000 in
theorem walk_y (o d b o2 d2 b2 m : Int) (w : World) (hT : Tabs w) (P1 P2 X1 X2 Q1 Q2 MX MN D : Int) (e1 : o.tmod 1152921504606846976 = P1) (e2 : o2.tmod 1152921504606846976 = P2) (x1 : max b 0 = X1) (x2 : max b2 0 = X2) (e3 : X1.tmod 1152921504606846976 = Q1) (e4 : X2.tmod 1152921504606846976 = Q2) (wm : IntKind.i64.wrap m = m) (ws : IntKind.i64.wrap (Q1 + m) = Q1 + m) (mx : max P1 P2 = MX) (mn : min P1 P2 = MN) (wd : IntKind.i64.wrap (MX - MN) = D) (wq : IntKind.i64.wrap (Q1 + Q2) = Q1 + Q2) (i1 : Wd.In64 P1) (i2 : Wd.In64 P2) (i3 : Wd.In64 Q1) (i4 : Wd.In64 Q2) (i5 : Wd.In64 (Q1 + m)) (haa : Shut (wth P1 Q1 P1 Q1 = true)) (hW : Shut (wth P1 Q1 P2 Q2 = true)) (hW2 : Shut (wth P2 Q2 P1 Q1 = true)) (hW3 : Shut (wth P1 (Q1 + m) P2 Q2 = true)) (hd : D ≤ Q1 + Q2) : Calls Tryd.prog 9 #[.agg (smc o d b).toArray, .agg (smc o2 d2 b2).toArray, .int .u32 m] w fun e w' => e = .returned (.bool true) ∧ Below w.heap.size w w' := by
  have hM := Ms.refl w
  go_enter Tryd.func9, Tryd.ntmps9
  refine wp_seq_k fun _ κ1 => wl_region (wl_give rfl (g_box 23 _ (smc (o) (d) (b)) rfl ?_))
  intro w2 t_ b_
  replace hM := hM.new t_ b_
  clear t_ b_
  try simp only [nz]
  refine wl_give rfl (g_box 23 _ (smc (o2) (d2) (b2)) rfl fun w3 t_ b_ => ?_)
  replace hM := hM.new t_ b_
  clear t_ b_
  refine wl_fare kn ?_
  simp (disch := omega) only [fx, pv, kx]
  refine wl_nil (κ1 _ _ ?_)
  refine wp_seq_k fun _ κ4 => wp_seq_k fun _ κ5 => wl_region (wl_give rfl (g_cM hM (kf10 _ _) (awake_any w3 (hM.tabs hT)) rfl ?_))
  intro w6 hM
  refine wl_fare kn ?_
  simp (disch := omega) only [fx, pv, kx]
  refine wl_nil (κ5 _ _ ?_)
  refine wp_cond_false rfl (wp_skip ?_)
  refine κ4 _ _ (wp_seq_k fun _ κ7 => ?_)
  refine wl_region (wl_fare kn ?_)
  simp (disch := omega) only [fx, pv, kx]
  refine wl_nil (κ7 _ _ ?_)
  refine wp_seq_k fun _ κ8 => ?_
  refine wp_region_steps (by kernel_rfl) (by kernel_rfl) [9, 11] [0, 0, 0, 0, 0, 0, 0, 0, 0, 0, 1, 1] [0, 0, 0, 0, 1, 1, 1, 1, 0, 1, 1, 2] (by kernel_rfl) (Pm := Unit) (fun π => [.pointer (some ⟨w.heap.size, 0, none⟩), .int .i64 (o), .int .i64 (1152921504606846976), .int .i64 (P1), .pointer (some ⟨w2.heap.size, 0, none⟩), .int .i64 (o2), .int .i64 (1152921504606846976), .int .i64 (P2), .pointer (some ⟨w.heap.size, 0, none⟩), undef, .pointer (some ⟨w2.heap.size, 0, none⟩), undef]) (fun _ => by rfl) (fun j_ π wx => match j_ with | 0 => Ms w wx [blk (w2.heap.size) (smc (o2) (d2) (b2)) 23, blk (w.heap.size) (smc (o) (d) (b)) 23] | 1 => Ms w wx [blk (w2.heap.size) (smc (o2) (d2) (b2)) 23, blk (w.heap.size) (smc (P1) (d) (b)) 23] | _ => Ms w wx [blk (w2.heap.size) (smc (P2) (d2) (b2)) 23, blk (w.heap.size) (smc (P1) (d) (b)) 23]) () hM.drew ?_ ?_ ?_
  · intro j_ k_ o_ hj_ ho_ π wx hM
    rcases j_ with _ | _ | j_
    · obtain rfl := Option.some.inj hj_
      cases so ho_
      simp only [fullL, Act.put, st_a, st_s, st_0]
      change Ms _ _ _ at hM
      exact gw rfl (g_st1 2 _ _ (w.heap.size) (0) (.int .i64 (P1)) _ 23 rfl rfl (hM.get 1 rfl) (show 0 < 3 by decide) rfl rfl size2 (fun w' t_ b_ => ⟨(), rfl, (fun _ _ _ => by first | rfl | trivial), hM.put 1 rfl t_ b_⟩))
    · obtain rfl := Option.some.inj hj_
      cases so ho_
      simp only [fullL, Act.put, st_a, st_s, st_0]
      change Ms _ _ _ at hM
      exact gw rfl (g_st1 2 _ _ (w2.heap.size) (0) (.int .i64 (P2)) _ 23 rfl rfl (hM.get 0 rfl) (show 0 < 3 by decide) rfl rfl size2 (fun w' t_ b_ => ⟨(), rfl, (fun _ _ _ => by first | rfl | trivial), hM.put 0 rfl t_ b_⟩))
    · simp at hj_
  · intro i_ o_ ho_ hi_ j_ hd_ hh_ hj_ π wx hM
    simp only [fullL, Act.put, st_a, st_s, st_0]
    rcases i_ with _ | _ | _ | _ | _ | _ | _ | _ | _ | _ | _ | _ | i_
    · cases so ho_
      exact gw rfl (g_fa _ _ _ _ _ _ rfl (faSm0 _ _ _) ⟨rfl, hM⟩)
    · cases so ho_
      rcases j_ with _ | _ | _ | j_
      · change Ms _ _ _ at hM
        exact gw rfl (g_ld1 2 _ (w.heap.size) (0) _ rfl (ld2 _ _ _ _ ((hM.get 1 rfl).cell (0) _ (rfl))) ⟨rfl, hM⟩)
      · exact absurd hh_ (by decide)
      · exact absurd hh_ (by decide)
      · exact absurd hj_ (by simp)
    · cases so ho_
      exact gw rfl (g_move _ _ rfl ⟨rfl, hM⟩)
    · cases so ho_
      exact gw rfl (g_irem 2 _ _ .i64 (o) (1152921504606846976) (P1) rfl rfl (by decide) e1 ⟨rfl, hM⟩)
    · cases so ho_
      exact gw rfl (g_fa _ _ _ _ _ _ rfl (faSm0 _ _ _) ⟨rfl, hM⟩)
    · cases so ho_
      rcases j_ with _ | _ | _ | j_
      · change Ms _ _ _ at hM
        exact gw rfl (g_ld1 2 _ (w2.heap.size) (0) _ rfl (ld2 _ _ _ _ ((hM.get 0 rfl).cell (0) _ (rfl))) ⟨rfl, hM⟩)
      · change Ms _ _ _ at hM
        exact gw rfl (g_ld1 2 _ (w2.heap.size) (0) _ rfl (ld2 _ _ _ _ ((hM.get 0 rfl).cell (0) _ (rfl))) ⟨rfl, hM⟩)
      · exact absurd hh_ (by decide)
      · exact absurd hj_ (by simp)
    · cases so ho_
      exact gw rfl (g_move _ _ rfl ⟨rfl, hM⟩)
    · cases so ho_
      exact gw rfl (g_irem 2 _ _ .i64 (o2) (1152921504606846976) (P2) rfl rfl (by decide) e2 ⟨rfl, hM⟩)
    · cases so ho_
      exact gw rfl (g_fa _ _ _ _ _ _ rfl (faSm0 _ _ _) ⟨rfl, hM⟩)
    · exact absurd (by decide) hi_
    · cases so ho_
      exact gw rfl (g_fa _ _ _ _ _ _ rfl (faSm0 _ _ _) ⟨rfl, hM⟩)
    · exact absurd (by decide) hi_
    · simp at ho_
  · simp only [fullL, Act.put, st_a, st_s, st_0]
    rintro ⟨⟩ w9 hM
    replace hM : Ms w w9 [blk (w2.heap.size) (smc (P2) (d2) (b2)) 23, blk (w.heap.size) (smc (P1) (d) (b)) 23] := hM
    refine κ8 _ _ (wp_seq_k fun _ κ10 => ?_)
    refine wp_region_steps (by kernel_rfl) (by kernel_rfl) [11, 13] [0, 0, 0, 0, 0, 0, 0, 0, 0, 0, 0, 0, 1, 1] [0, 0, 0, 0, 0, 1, 1, 1, 1, 1, 0, 1, 1, 2] (by kernel_rfl) (Pm := Unit) (fun π => [.pointer (some ⟨w.heap.size, 2, none⟩), .int .i64 (b), .int .i64 (X1), .int .i64 (1152921504606846976), .int .i64 (Q1), .pointer (some ⟨w2.heap.size, 2, none⟩), .int .i64 (b2), .int .i64 (X2), .int .i64 (1152921504606846976), .int .i64 (Q2), .pointer (some ⟨w.heap.size, 2, none⟩), undef, .pointer (some ⟨w2.heap.size, 2, none⟩), undef]) (fun _ => by rfl) (fun j_ π wx => match j_ with | 0 => Ms w wx [blk (w2.heap.size) (smc (P2) (d2) (b2)) 23, blk (w.heap.size) (smc (P1) (d) (b)) 23] | 1 => Ms w wx [blk (w2.heap.size) (smc (P2) (d2) (b2)) 23, blk (w.heap.size) (smc (P1) (d) (Q1)) 23] | _ => Ms w wx [blk (w2.heap.size) (smc (P2) (d2) (Q2)) 23, blk (w.heap.size) (smc (P1) (d) (Q1)) 23]) () hM.drew ?_ ?_ ?_
    · intro j_ k_ o_ hj_ ho_ π wx hM
      rcases j_ with _ | _ | j_
      · obtain rfl := Option.some.inj hj_
        cases so ho_
        simp only [fullL, Act.put, st_a, st_s, st_0]
        change Ms _ _ _ at hM
        exact gw rfl (g_st1 2 _ _ (w.heap.size) (2) (.int .i64 (Q1)) _ 23 rfl rfl (hM.get 1 rfl) (show 2 < 3 by decide) rfl rfl size2 (fun w' t_ b_ => ⟨(), rfl, (fun _ _ _ => by first | rfl | trivial), hM.put 1 rfl t_ b_⟩))
      · obtain rfl := Option.some.inj hj_
        cases so ho_
        simp only [fullL, Act.put, st_a, st_s, st_0]
        change Ms _ _ _ at hM
        exact gw rfl (g_st1 2 _ _ (w2.heap.size) (2) (.int .i64 (Q2)) _ 23 rfl rfl (hM.get 0 rfl) (show 2 < 3 by decide) rfl rfl size2 (fun w' t_ b_ => ⟨(), rfl, (fun _ _ _ => by first | rfl | trivial), hM.put 0 rfl t_ b_⟩))
      · simp at hj_
    · intro i_ o_ ho_ hi_ j_ hd_ hh_ hj_ π wx hM
      simp only [fullL, Act.put, st_a, st_s, st_0]
      rcases i_ with _ | _ | _ | _ | _ | _ | _ | _ | _ | _ | _ | _ | _ | _ | i_
      · cases so ho_
        exact gw rfl (g_fa _ _ _ _ _ _ rfl (faSm2 _ _ _) ⟨rfl, hM⟩)
      · cases so ho_
        rcases j_ with _ | _ | _ | j_
        · change Ms _ _ _ at hM
          exact gw rfl (g_ld1 2 _ (w.heap.size) (2) _ rfl (ld2 _ _ _ _ ((hM.get 1 rfl).cell (2) _ (rfl))) ⟨rfl, hM⟩)
        · exact absurd hh_ (by decide)
        · exact absurd hh_ (by decide)
        · exact absurd hj_ (by simp)
      · cases so ho_
        exact gw rfl (g_max2 _ _ (b) (0) (X1) rfl rfl (x1) ⟨rfl, hM⟩)
      · cases so ho_
        exact gw rfl (g_move _ _ rfl ⟨rfl, hM⟩)
      · cases so ho_
        exact gw rfl (g_irem 2 _ _ .i64 (X1) (1152921504606846976) (Q1) rfl rfl (by decide) e3 ⟨rfl, hM⟩)
      · cases so ho_
        exact gw rfl (g_fa _ _ _ _ _ _ rfl (faSm2 _ _ _) ⟨rfl, hM⟩)
      · cases so ho_
        rcases j_ with _ | _ | _ | j_
        · change Ms _ _ _ at hM
          exact gw rfl (g_ld1 2 _ (w2.heap.size) (2) _ rfl (ld2 _ _ _ _ ((hM.get 0 rfl).cell (2) _ (rfl))) ⟨rfl, hM⟩)
        · change Ms _ _ _ at hM
          exact gw rfl (g_ld1 2 _ (w2.heap.size) (2) _ rfl (ld2 _ _ _ _ ((hM.get 0 rfl).cell (2) _ (rfl))) ⟨rfl, hM⟩)
        · exact absurd hh_ (by decide)
        · exact absurd hj_ (by simp)
      · cases so ho_
        exact gw rfl (g_max2 _ _ (b2) (0) (X2) rfl rfl (x2) ⟨rfl, hM⟩)
      · cases so ho_
        exact gw rfl (g_move _ _ rfl ⟨rfl, hM⟩)
      · cases so ho_
        exact gw rfl (g_irem 2 _ _ .i64 (X2) (1152921504606846976) (Q2) rfl rfl (by decide) e4 ⟨rfl, hM⟩)
      · cases so ho_
        exact gw rfl (g_fa _ _ _ _ _ _ rfl (faSm2 _ _ _) ⟨rfl, hM⟩)
      · exact absurd (by decide) hi_
      · cases so ho_
        exact gw rfl (g_fa _ _ _ _ _ _ rfl (faSm2 _ _ _) ⟨rfl, hM⟩)
      · exact absurd (by decide) hi_
      · simp at ho_
    · simp only [fullL, Act.put, st_a, st_s, st_0]
      rintro ⟨⟩ w11 hM
      replace hM : Ms w w11 [blk (w2.heap.size) (smc (P2) (d2) (Q2)) 23, blk (w.heap.size) (smc (P1) (d) (Q1)) 23] := hM
      refine κ10 _ _ (wp_seq_k fun _ κ12 => ?_)
      refine wl_region (wl_give rfl (g_load_all 23 _ (w.heap.size) (smc (P1) (d) (Q1)) 23 _ rfl (hM.get 1 rfl) Tryd.underlying23 rfl (szSm _ _ _) ?_))
      try simp only [nz]
      refine wl_give rfl (g_load_all 23 _ (w2.heap.size) (smc (P2) (d2) (Q2)) 23 _ rfl (hM.get 0 rfl) Tryd.underlying23 rfl (szSm _ _ _) ?_)
      try simp only [nz]
      refine wl_give rfl (g_cM hM (kf13 _ _) (within_any (P1) (d) (Q1) (P2) (d2) (Q2) w11 (i1) (i3) (i2) (i4) true hW) rfl fun w13 hM => wl_fare kn ?_)
      simp (disch := omega) only [fx, pv, kx]
      refine wl_nil (κ12 _ _ ?_)
      refine wp_seq_k fun _ κ14 => wl_region (wl_give rfl (g_load_all 23 _ (w.heap.size) (smc (P1) (d) (Q1)) 23 _ rfl (hM.get 1 rfl) Tryd.underlying23 rfl (szSm _ _ _) ?_))
      try simp only [nz]
      refine wl_give rfl (g_alloc 23 (smc (0) (0) (0)) zeroSm fun w15 t_ b_ => ?_)
      replace hM := hM.new t_ b_
      clear t_ b_
      try simp only [nz]
      refine wl_give rfl (g_store_all 23 _ _ (w13.heap.size) (smc (P1) (d) (Q1)) _ 23 rfl rfl (hM.get 0 rfl) (szSm _ _ _) (rfl) (one_smc _ _ _) fun w16 t_ b_ => ?_)
      replace hM : Ms w w16 [blk (w13.heap.size) (smc (P1) (d) (Q1)) 23, blk (w2.heap.size) (smc (P2) (d2) (Q2)) 23, blk (w.heap.size) (smc (P1) (d) (Q1)) 23] := hM.put 0 rfl t_ b_
      clear t_ b_
      try simp only [nz]
      refine wl_nil (κ14 _ _ ?_)
      refine wp_seq_k fun _ κ17 => wl_region (wl_fare kn ?_)
      simp (config := { maxSteps := 10000000 }) (disch := omega) only [fx, pv, kx, (hM.get 0 rfl).cell 2 (.int .i64 (Q1)) rfl]
      refine wl_give rfl (g_cv32 _ (m) (m) rfl (wm) ?_)
      refine wl_fare kn ?_
      simp (config := { maxSteps := 10000000 }) (disch := omega) only [fx, pv, kx, (ws : IntKind.i64.wrap ((Q1) + (m)) = Q1 + m)]
      refine wl_give rfl (g_st1 2 _ _ (w13.heap.size) (2) (.int .i64 (Q1 + m)) _ 23 rfl rfl (hM.get 0 rfl) (show 2 < 3 by decide) rfl rfl size2 fun w18 t_ b_ => ?_)
      replace hM : Ms w w18 [blk (w13.heap.size) (smc (P1) (d) (Q1 + m)) 23, blk (w2.heap.size) (smc (P2) (d2) (Q2)) 23, blk (w.heap.size) (smc (P1) (d) (Q1)) 23] := hM.put 0 rfl t_ b_
      clear t_ b_
      try simp only [nz]
      refine wl_nil (κ17 _ _ ?_)
      refine wp_seq_k fun _ κ19 => wl_region (wl_fare kn ?_)
      simp (config := { maxSteps := 10000000 }) (disch := omega) only [fx, pv, kx, (hM.get 2 rfl).cell 0 (.int .i64 (P1)) rfl, (hM.get 1 rfl).cell 0 (.int .i64 (P2)) rfl]
      refine wl_give rfl (g_max2 _ _ (P1) (P2) (MX) rfl rfl (mx) ?_)
      refine wl_fare kn ?_
      simp (config := { maxSteps := 10000000 }) (disch := omega) only [fx, pv, kx, (hM.get 2 rfl).cell 0 (.int .i64 (P1)) rfl, (hM.get 1 rfl).cell 0 (.int .i64 (P2)) rfl]
      refine wl_give rfl (g_min2 _ _ (P1) (P2) (MN) rfl rfl (mn) ?_)
      refine wl_fare kn ?_
      simp (config := { maxSteps := 10000000 }) (disch := omega) only [fx, pv, kx, (wd : IntKind.i64.wrap ((MX) - (MN)) = D)]
      refine wl_nil (κ19 _ _ ?_)
      refine wp_seq_k fun _ κ20 => wl_region (wl_give rfl (g_load_all 23 _ (w.heap.size) (smc (P1) (d) (Q1)) 23 _ rfl (hM.get 2 rfl) Tryd.underlying23 rfl (szSm _ _ _) ?_))
      try simp only [nz]
      refine wl_give rfl (g_load_all 23 _ (w.heap.size) (smc (P1) (d) (Q1)) 23 _ rfl (hM.get 2 rfl) Tryd.underlying23 rfl (szSm _ _ _) ?_)
      try simp only [nz]
      refine wl_give rfl (g_cM hM (kf13 _ _) (within_any (P1) (d) (Q1) (P1) (d) (Q1) w18 (i1) (i3) (i1) (i3) true haa) rfl fun w21 hM => wl_fare kn ?_)
      simp (config := { maxSteps := 10000000 }) (disch := omega) only [fx, pv, kx]
      refine wl_give rfl (g_load_all 23 _ (w2.heap.size) (smc (P2) (d2) (Q2)) 23 _ rfl (hM.get 1 rfl) Tryd.underlying23 rfl (szSm _ _ _) ?_)
      try simp only [nz]
      refine wl_give rfl (g_load_all 23 _ (w.heap.size) (smc (P1) (d) (Q1)) 23 _ rfl (hM.get 2 rfl) Tryd.underlying23 rfl (szSm _ _ _) ?_)
      try simp only [nz]
      refine wl_give rfl (g_cM hM (kf13 _ _) (within_any (P2) (d2) (Q2) (P1) (d) (Q1) w21 (i2) (i4) (i1) (i3) true hW2) rfl fun w22 hM => ?_)
      try simp only [nz]
      refine wl_give rfl (g_beq _ _ true true true rfl rfl (rfl) ?_)
      refine wl_fare kn ?_
      simp (config := { maxSteps := 10000000 }) (disch := omega) only [fx, pv, kx]
      refine wl_give rfl (g_load_all 23 _ (w13.heap.size) (smc (P1) (d) (Q1 + m)) 23 _ rfl (hM.get 0 rfl) Tryd.underlying23 rfl (szSm _ _ _) ?_)
      try simp only [nz]
      refine wl_give rfl (g_load_all 23 _ (w2.heap.size) (smc (P2) (d2) (Q2)) 23 _ rfl (hM.get 1 rfl) Tryd.underlying23 rfl (szSm _ _ _) ?_)
      try simp only [nz]
      refine wl_give rfl (g_cM hM (kf13 _ _) (within_any (P1) (d) (Q1 + m) (P2) (d2) (Q2) w22 (i1) (i5) (i2) (i4) true hW3) rfl fun w23 hM => wl_fare kn ?_)
      simp (config := { maxSteps := 10000000 }) (disch := omega) only [fx, pv, kx, (hM.get 2 rfl).cell 2 (.int .i64 (Q1)) rfl, (hM.get 1 rfl).cell 2 (.int .i64 (Q2)) rfl, (wq : IntKind.i64.wrap ((Q1) + (Q2)) = Q1 + Q2)]
      refine wl_give rfl (g_beq _ _ true true true rfl rfl (rfl) ?_)
      refine wl_fare kn ?_
      simp (config := { maxSteps := 10000000 }) (disch := omega) only [fx, pv, kx]
      refine wl_nil (κ20 _ _ ?_)
      refine wp_ret ?_
      go_ret
      exact ⟨rfl, hM.below⟩
set_option maxHeartbeats 8000000 in
theorem walk_n (o d b o2 d2 b2 m : Int) (w : World) (hT : Tabs w) (P1 P2 X1 X2 Q1 Q2 MX MN D : Int) (e1 : o.tmod 1152921504606846976 = P1) (e2 : o2.tmod 1152921504606846976 = P2) (x1 : max b 0 = X1) (x2 : max b2 0 = X2) (e3 : X1.tmod 1152921504606846976 = Q1) (e4 : X2.tmod 1152921504606846976 = Q2) (wm : IntKind.i64.wrap m = m) (ws : IntKind.i64.wrap (Q1 + m) = Q1 + m) (mx : max P1 P2 = MX) (mn : min P1 P2 = MN) (wd : IntKind.i64.wrap (MX - MN) = D) (wq : IntKind.i64.wrap (Q1 + Q2) = Q1 + Q2) (i1 : Wd.In64 P1) (i2 : Wd.In64 P2) (i3 : Wd.In64 Q1) (i4 : Wd.In64 Q2) (i5 : Wd.In64 (Q1 + m)) (haa : Shut (wth P1 Q1 P1 Q1 = true)) (hW : Shut (wth P1 Q1 P2 Q2 = false)) (hW2 : Shut (wth P2 Q2 P1 Q1 = false))  (hd : ¬ D ≤ Q1 + Q2) : Calls Tryd.prog 9 #[.agg (smc o d b).toArray, .agg (smc o2 d2 b2).toArray, .int .u32 m] w fun e w' => e = .returned (.bool true) ∧ Below w.heap.size w w' := by
  have hM := Ms.refl w
  go_enter Tryd.func9, Tryd.ntmps9
  refine wp_seq_k fun _ κ1 => wl_region (wl_give rfl (g_box 23 _ (smc (o) (d) (b)) rfl ?_))
  intro w2 t_ b_
  replace hM := hM.new t_ b_
  clear t_ b_
  try simp only [nz]
  refine wl_give rfl (g_box 23 _ (smc (o2) (d2) (b2)) rfl fun w3 t_ b_ => ?_)
  replace hM := hM.new t_ b_
  clear t_ b_
  refine wl_fare kn ?_
  simp (disch := omega) only [fx, pv, kx]
  refine wl_nil (κ1 _ _ ?_)
  refine wp_seq_k fun _ κ4 => wp_seq_k fun _ κ5 => wl_region (wl_give rfl (g_cM hM (kf10 _ _) (awake_any w3 (hM.tabs hT)) rfl ?_))
  intro w6 hM
  refine wl_fare kn ?_
  simp (disch := omega) only [fx, pv, kx]
  refine wl_nil (κ5 _ _ ?_)
  refine wp_cond_false rfl (wp_skip ?_)
  refine κ4 _ _ (wp_seq_k fun _ κ7 => ?_)
  refine wl_region (wl_fare kn ?_)
  simp (disch := omega) only [fx, pv, kx]
  refine wl_nil (κ7 _ _ ?_)
  refine wp_seq_k fun _ κ8 => ?_
  refine wp_region_steps (by kernel_rfl) (by kernel_rfl) [9, 11] [0, 0, 0, 0, 0, 0, 0, 0, 0, 0, 1, 1] [0, 0, 0, 0, 1, 1, 1, 1, 0, 1, 1, 2] (by kernel_rfl) (Pm := Unit) (fun π => [.pointer (some ⟨w.heap.size, 0, none⟩), .int .i64 (o), .int .i64 (1152921504606846976), .int .i64 (P1), .pointer (some ⟨w2.heap.size, 0, none⟩), .int .i64 (o2), .int .i64 (1152921504606846976), .int .i64 (P2), .pointer (some ⟨w.heap.size, 0, none⟩), undef, .pointer (some ⟨w2.heap.size, 0, none⟩), undef]) (fun _ => by rfl) (fun j_ π wx => match j_ with | 0 => Ms w wx [blk (w2.heap.size) (smc (o2) (d2) (b2)) 23, blk (w.heap.size) (smc (o) (d) (b)) 23] | 1 => Ms w wx [blk (w2.heap.size) (smc (o2) (d2) (b2)) 23, blk (w.heap.size) (smc (P1) (d) (b)) 23] | _ => Ms w wx [blk (w2.heap.size) (smc (P2) (d2) (b2)) 23, blk (w.heap.size) (smc (P1) (d) (b)) 23]) () hM.drew ?_ ?_ ?_
  · intro j_ k_ o_ hj_ ho_ π wx hM
    rcases j_ with _ | _ | j_
    · obtain rfl := Option.some.inj hj_
      cases so ho_
      simp only [fullL, Act.put, st_a, st_s, st_0]
      change Ms _ _ _ at hM
      exact gw rfl (g_st1 2 _ _ (w.heap.size) (0) (.int .i64 (P1)) _ 23 rfl rfl (hM.get 1 rfl) (show 0 < 3 by decide) rfl rfl size2 (fun w' t_ b_ => ⟨(), rfl, (fun _ _ _ => by first | rfl | trivial), hM.put 1 rfl t_ b_⟩))
    · obtain rfl := Option.some.inj hj_
      cases so ho_
      simp only [fullL, Act.put, st_a, st_s, st_0]
      change Ms _ _ _ at hM
      exact gw rfl (g_st1 2 _ _ (w2.heap.size) (0) (.int .i64 (P2)) _ 23 rfl rfl (hM.get 0 rfl) (show 0 < 3 by decide) rfl rfl size2 (fun w' t_ b_ => ⟨(), rfl, (fun _ _ _ => by first | rfl | trivial), hM.put 0 rfl t_ b_⟩))
    · simp at hj_
  · intro i_ o_ ho_ hi_ j_ hd_ hh_ hj_ π wx hM
    simp only [fullL, Act.put, st_a, st_s, st_0]
    rcases i_ with _ | _ | _ | _ | _ | _ | _ | _ | _ | _ | _ | _ | i_
    · cases so ho_
      exact gw rfl (g_fa _ _ _ _ _ _ rfl (faSm0 _ _ _) ⟨rfl, hM⟩)
    · cases so ho_
      rcases j_ with _ | _ | _ | j_
      · change Ms _ _ _ at hM
        exact gw rfl (g_ld1 2 _ (w.heap.size) (0) _ rfl (ld2 _ _ _ _ ((hM.get 1 rfl).cell (0) _ (rfl))) ⟨rfl, hM⟩)
      · exact absurd hh_ (by decide)
      · exact absurd hh_ (by decide)
      · exact absurd hj_ (by simp)
    · cases so ho_
      exact gw rfl (g_move _ _ rfl ⟨rfl, hM⟩)
    · cases so ho_
      exact gw rfl (g_irem 2 _ _ .i64 (o) (1152921504606846976) (P1) rfl rfl (by decide) e1 ⟨rfl, hM⟩)
    · cases so ho_
      exact gw rfl (g_fa _ _ _ _ _ _ rfl (faSm0 _ _ _) ⟨rfl, hM⟩)
    · cases so ho_
      rcases j_ with _ | _ | _ | j_
      · change Ms _ _ _ at hM
        exact gw rfl (g_ld1 2 _ (w2.heap.size) (0) _ rfl (ld2 _ _ _ _ ((hM.get 0 rfl).cell (0) _ (rfl))) ⟨rfl, hM⟩)
      · change Ms _ _ _ at hM
        exact gw rfl (g_ld1 2 _ (w2.heap.size) (0) _ rfl (ld2 _ _ _ _ ((hM.get 0 rfl).cell (0) _ (rfl))) ⟨rfl, hM⟩)
      · exact absurd hh_ (by decide)
      · exact absurd hj_ (by simp)
    · cases so ho_
      exact gw rfl (g_move _ _ rfl ⟨rfl, hM⟩)
    · cases so ho_
      exact gw rfl (g_irem 2 _ _ .i64 (o2) (1152921504606846976) (P2) rfl rfl (by decide) e2 ⟨rfl, hM⟩)
    · cases so ho_
      exact gw rfl (g_fa _ _ _ _ _ _ rfl (faSm0 _ _ _) ⟨rfl, hM⟩)
    · exact absurd (by decide) hi_
    · cases so ho_
      exact gw rfl (g_fa _ _ _ _ _ _ rfl (faSm0 _ _ _) ⟨rfl, hM⟩)
    · exact absurd (by decide) hi_
    · simp at ho_
  · simp only [fullL, Act.put, st_a, st_s, st_0]
    rintro ⟨⟩ w9 hM
    replace hM : Ms w w9 [blk (w2.heap.size) (smc (P2) (d2) (b2)) 23, blk (w.heap.size) (smc (P1) (d) (b)) 23] := hM
    refine κ8 _ _ (wp_seq_k fun _ κ10 => ?_)
    refine wp_region_steps (by kernel_rfl) (by kernel_rfl) [11, 13] [0, 0, 0, 0, 0, 0, 0, 0, 0, 0, 0, 0, 1, 1] [0, 0, 0, 0, 0, 1, 1, 1, 1, 1, 0, 1, 1, 2] (by kernel_rfl) (Pm := Unit) (fun π => [.pointer (some ⟨w.heap.size, 2, none⟩), .int .i64 (b), .int .i64 (X1), .int .i64 (1152921504606846976), .int .i64 (Q1), .pointer (some ⟨w2.heap.size, 2, none⟩), .int .i64 (b2), .int .i64 (X2), .int .i64 (1152921504606846976), .int .i64 (Q2), .pointer (some ⟨w.heap.size, 2, none⟩), undef, .pointer (some ⟨w2.heap.size, 2, none⟩), undef]) (fun _ => by rfl) (fun j_ π wx => match j_ with | 0 => Ms w wx [blk (w2.heap.size) (smc (P2) (d2) (b2)) 23, blk (w.heap.size) (smc (P1) (d) (b)) 23] | 1 => Ms w wx [blk (w2.heap.size) (smc (P2) (d2) (b2)) 23, blk (w.heap.size) (smc (P1) (d) (Q1)) 23] | _ => Ms w wx [blk (w2.heap.size) (smc (P2) (d2) (Q2)) 23, blk (w.heap.size) (smc (P1) (d) (Q1)) 23]) () hM.drew ?_ ?_ ?_
    · intro j_ k_ o_ hj_ ho_ π wx hM
      rcases j_ with _ | _ | j_
      · obtain rfl := Option.some.inj hj_
        cases so ho_
        simp only [fullL, Act.put, st_a, st_s, st_0]
        change Ms _ _ _ at hM
        exact gw rfl (g_st1 2 _ _ (w.heap.size) (2) (.int .i64 (Q1)) _ 23 rfl rfl (hM.get 1 rfl) (show 2 < 3 by decide) rfl rfl size2 (fun w' t_ b_ => ⟨(), rfl, (fun _ _ _ => by first | rfl | trivial), hM.put 1 rfl t_ b_⟩))
      · obtain rfl := Option.some.inj hj_
        cases so ho_
        simp only [fullL, Act.put, st_a, st_s, st_0]
        change Ms _ _ _ at hM
        exact gw rfl (g_st1 2 _ _ (w2.heap.size) (2) (.int .i64 (Q2)) _ 23 rfl rfl (hM.get 0 rfl) (show 2 < 3 by decide) rfl rfl size2 (fun w' t_ b_ => ⟨(), rfl, (fun _ _ _ => by first | rfl | trivial), hM.put 0 rfl t_ b_⟩))
      · simp at hj_
    · intro i_ o_ ho_ hi_ j_ hd_ hh_ hj_ π wx hM
      simp only [fullL, Act.put, st_a, st_s, st_0]
      rcases i_ with _ | _ | _ | _ | _ | _ | _ | _ | _ | _ | _ | _ | _ | _ | i_
      · cases so ho_
        exact gw rfl (g_fa _ _ _ _ _ _ rfl (faSm2 _ _ _) ⟨rfl, hM⟩)
      · cases so ho_
        rcases j_ with _ | _ | _ | j_
        · change Ms _ _ _ at hM
          exact gw rfl (g_ld1 2 _ (w.heap.size) (2) _ rfl (ld2 _ _ _ _ ((hM.get 1 rfl).cell (2) _ (rfl))) ⟨rfl, hM⟩)
        · exact absurd hh_ (by decide)
        · exact absurd hh_ (by decide)
        · exact absurd hj_ (by simp)
      · cases so ho_
        exact gw rfl (g_max2 _ _ (b) (0) (X1) rfl rfl (x1) ⟨rfl, hM⟩)
      · cases so ho_
        exact gw rfl (g_move _ _ rfl ⟨rfl, hM⟩)
      · cases so ho_
        exact gw rfl (g_irem 2 _ _ .i64 (X1) (1152921504606846976) (Q1) rfl rfl (by decide) e3 ⟨rfl, hM⟩)
      · cases so ho_
        exact gw rfl (g_fa _ _ _ _ _ _ rfl (faSm2 _ _ _) ⟨rfl, hM⟩)
      · cases so ho_
        rcases j_ with _ | _ | _ | j_
        · change Ms _ _ _ at hM
          exact gw rfl (g_ld1 2 _ (w2.heap.size) (2) _ rfl (ld2 _ _ _ _ ((hM.get 0 rfl).cell (2) _ (rfl))) ⟨rfl, hM⟩)
        · change Ms _ _ _ at hM
          exact gw rfl (g_ld1 2 _ (w2.heap.size) (2) _ rfl (ld2 _ _ _ _ ((hM.get 0 rfl).cell (2) _ (rfl))) ⟨rfl, hM⟩)
        · exact absurd hh_ (by decide)
        · exact absurd hj_ (by simp)
      · cases so ho_
        exact gw rfl (g_max2 _ _ (b2) (0) (X2) rfl rfl (x2) ⟨rfl, hM⟩)
      · cases so ho_
        exact gw rfl (g_move _ _ rfl ⟨rfl, hM⟩)
      · cases so ho_
        exact gw rfl (g_irem 2 _ _ .i64 (X2) (1152921504606846976) (Q2) rfl rfl (by decide) e4 ⟨rfl, hM⟩)
      · cases so ho_
        exact gw rfl (g_fa _ _ _ _ _ _ rfl (faSm2 _ _ _) ⟨rfl, hM⟩)
      · exact absurd (by decide) hi_
      · cases so ho_
        exact gw rfl (g_fa _ _ _ _ _ _ rfl (faSm2 _ _ _) ⟨rfl, hM⟩)
      · exact absurd (by decide) hi_
      · simp at ho_
    · simp only [fullL, Act.put, st_a, st_s, st_0]
      rintro ⟨⟩ w11 hM
      replace hM : Ms w w11 [blk (w2.heap.size) (smc (P2) (d2) (Q2)) 23, blk (w.heap.size) (smc (P1) (d) (Q1)) 23] := hM
      refine κ10 _ _ (wp_seq_k fun _ κ12 => ?_)
      refine wl_region (wl_give rfl (g_load_all 23 _ (w.heap.size) (smc (P1) (d) (Q1)) 23 _ rfl (hM.get 1 rfl) Tryd.underlying23 rfl (szSm _ _ _) ?_))
      try simp only [nz]
      refine wl_give rfl (g_load_all 23 _ (w2.heap.size) (smc (P2) (d2) (Q2)) 23 _ rfl (hM.get 0 rfl) Tryd.underlying23 rfl (szSm _ _ _) ?_)
      try simp only [nz]
      refine wl_give rfl (g_cM hM (kf13 _ _) (within_any (P1) (d) (Q1) (P2) (d2) (Q2) w11 (i1) (i3) (i2) (i4) false hW) rfl fun w13 hM => wl_fare kn ?_)
      simp (disch := omega) only [fx, pv, kx]
      refine wl_nil (κ12 _ _ ?_)
      refine wp_seq_k fun _ κ14 => wl_region (wl_give rfl (g_load_all 23 _ (w.heap.size) (smc (P1) (d) (Q1)) 23 _ rfl (hM.get 1 rfl) Tryd.underlying23 rfl (szSm _ _ _) ?_))
      try simp only [nz]
      refine wl_give rfl (g_alloc 23 (smc (0) (0) (0)) zeroSm fun w15 t_ b_ => ?_)
      replace hM := hM.new t_ b_
      clear t_ b_
      try simp only [nz]
      refine wl_give rfl (g_store_all 23 _ _ (w13.heap.size) (smc (P1) (d) (Q1)) _ 23 rfl rfl (hM.get 0 rfl) (szSm _ _ _) (rfl) (one_smc _ _ _) fun w16 t_ b_ => ?_)
      replace hM : Ms w w16 [blk (w13.heap.size) (smc (P1) (d) (Q1)) 23, blk (w2.heap.size) (smc (P2) (d2) (Q2)) 23, blk (w.heap.size) (smc (P1) (d) (Q1)) 23] := hM.put 0 rfl t_ b_
      clear t_ b_
      try simp only [nz]
      refine wl_nil (κ14 _ _ ?_)
      refine wp_seq_k fun _ κ17 => wl_region (wl_fare kn ?_)
      simp (config := { maxSteps := 10000000 }) (disch := omega) only [fx, pv, kx, (hM.get 0 rfl).cell 2 (.int .i64 (Q1)) rfl]
      refine wl_give rfl (g_cv32 _ (m) (m) rfl (wm) ?_)
      refine wl_fare kn ?_
      simp (config := { maxSteps := 10000000 }) (disch := omega) only [fx, pv, kx, (ws : IntKind.i64.wrap ((Q1) + (m)) = Q1 + m)]
      refine wl_give rfl (g_st1 2 _ _ (w13.heap.size) (2) (.int .i64 (Q1 + m)) _ 23 rfl rfl (hM.get 0 rfl) (show 2 < 3 by decide) rfl rfl size2 fun w18 t_ b_ => ?_)
      replace hM : Ms w w18 [blk (w13.heap.size) (smc (P1) (d) (Q1 + m)) 23, blk (w2.heap.size) (smc (P2) (d2) (Q2)) 23, blk (w.heap.size) (smc (P1) (d) (Q1)) 23] := hM.put 0 rfl t_ b_
      clear t_ b_
      try simp only [nz]
      refine wl_nil (κ17 _ _ ?_)
      refine wp_seq_k fun _ κ19 => wl_region (wl_fare kn ?_)
      simp (config := { maxSteps := 10000000 }) (disch := omega) only [fx, pv, kx, (hM.get 2 rfl).cell 0 (.int .i64 (P1)) rfl, (hM.get 1 rfl).cell 0 (.int .i64 (P2)) rfl]
      refine wl_give rfl (g_max2 _ _ (P1) (P2) (MX) rfl rfl (mx) ?_)
      refine wl_fare kn ?_
      simp (config := { maxSteps := 10000000 }) (disch := omega) only [fx, pv, kx, (hM.get 2 rfl).cell 0 (.int .i64 (P1)) rfl, (hM.get 1 rfl).cell 0 (.int .i64 (P2)) rfl]
      refine wl_give rfl (g_min2 _ _ (P1) (P2) (MN) rfl rfl (mn) ?_)
      refine wl_fare kn ?_
      simp (config := { maxSteps := 10000000 }) (disch := omega) only [fx, pv, kx, (wd : IntKind.i64.wrap ((MX) - (MN)) = D)]
      refine wl_nil (κ19 _ _ ?_)
      refine wp_seq_k fun _ κ20 => wl_region (wl_give rfl (g_load_all 23 _ (w.heap.size) (smc (P1) (d) (Q1)) 23 _ rfl (hM.get 2 rfl) Tryd.underlying23 rfl (szSm _ _ _) ?_))
      try simp only [nz]
      refine wl_give rfl (g_load_all 23 _ (w.heap.size) (smc (P1) (d) (Q1)) 23 _ rfl (hM.get 2 rfl) Tryd.underlying23 rfl (szSm _ _ _) ?_)
      try simp only [nz]
      refine wl_give rfl (g_cM hM (kf13 _ _) (within_any (P1) (d) (Q1) (P1) (d) (Q1) w18 (i1) (i3) (i1) (i3) true haa) rfl fun w21 hM => wl_fare kn ?_)
      simp (config := { maxSteps := 10000000 }) (disch := omega) only [fx, pv, kx]
      refine wl_give rfl (g_load_all 23 _ (w2.heap.size) (smc (P2) (d2) (Q2)) 23 _ rfl (hM.get 1 rfl) Tryd.underlying23 rfl (szSm _ _ _) ?_)
      try simp only [nz]
      refine wl_give rfl (g_load_all 23 _ (w.heap.size) (smc (P1) (d) (Q1)) 23 _ rfl (hM.get 2 rfl) Tryd.underlying23 rfl (szSm _ _ _) ?_)
      try simp only [nz]
      refine wl_give rfl (g_cM hM (kf13 _ _) (within_any (P2) (d2) (Q2) (P1) (d) (Q1) w21 (i2) (i4) (i1) (i3) false hW2) rfl fun w22 hM => ?_)
      try simp only [nz]
      refine wl_give rfl (g_beq _ _ false false true rfl rfl (rfl) ?_)
      refine wl_fare kn ?_
      simp (config := { maxSteps := 10000000 }) (disch := omega) only [fx, pv, kx, (hM.get 2 rfl).cell 2 (.int .i64 (Q1)) rfl, (hM.get 1 rfl).cell 2 (.int .i64 (Q2)) rfl, (wq : IntKind.i64.wrap ((Q1) + (Q2)) = Q1 + Q2)]
      refine wl_give rfl (g_beq _ _ false false true rfl rfl (rfl) ?_)
      refine wl_fare kn ?_
      simp (config := { maxSteps := 10000000 }) (disch := omega) only [fx, pv, kx]
      refine wl_nil (κ20 _ _ ?_)
      refine wp_ret ?_
      go_ret
      exact ⟨rfl, hM.below⟩
theorem walk (o d b o2 d2 b2 m : Int) (w : World) (hT : Tabs w) (u1 : -9223372036854775808 ≤ o ∧ o < 9223372036854775808) (v1 : -9223372036854775808 ≤ d ∧ d < 9223372036854775808) (w1 : -9223372036854775808 ≤ b ∧ b < 9223372036854775808) (u2 : -9223372036854775808 ≤ o2 ∧ o2 < 9223372036854775808) (v2 : -9223372036854775808 ≤ d2 ∧ d2 < 9223372036854775808) (w2 : -9223372036854775808 ≤ b2 ∧ b2 < 9223372036854775808) (hm : 0 ≤ m ∧ m < 4294967296) : Calls Tryd.prog 9 #[.agg (smc o d b).toArray, .agg (smc o2 d2 b2).toArray, .int .u32 m] w fun e w' => e = .returned (.bool true) ∧ Below w.heap.size w w' := by
  have t1 := tmod_lt o 1152921504606846976 (by decide)
  have t2 := tmod_lt o2 1152921504606846976 (by decide)
  have t3 := tmod_nn (max b 0) 1152921504606846976 (by decide) (by omega)
  have t4 := tmod_nn (max b2 0) 1152921504606846976 (by decide) (by omega)
  obtain ⟨P1, e1⟩ : ∃ P1, o.tmod 1152921504606846976 = P1 := ⟨_, rfl⟩
  obtain ⟨P2, e2⟩ : ∃ P2, o2.tmod 1152921504606846976 = P2 := ⟨_, rfl⟩
  obtain ⟨X1, x1⟩ : ∃ X1, max b 0 = X1 := ⟨_, rfl⟩
  obtain ⟨X2, x2⟩ : ∃ X2, max b2 0 = X2 := ⟨_, rfl⟩
  rw [x1] at t3
  rw [x2] at t4
  obtain ⟨Q1, e3⟩ : ∃ Q1, X1.tmod 1152921504606846976 = Q1 := ⟨_, rfl⟩
  obtain ⟨Q2, e4⟩ : ∃ Q2, X2.tmod 1152921504606846976 = Q2 := ⟨_, rfl⟩
  rw [e1] at t1
  rw [e2] at t2
  rw [e3] at t3
  rw [e4] at t4
  obtain ⟨MX, mx⟩ : ∃ MX, max P1 P2 = MX := ⟨_, rfl⟩
  obtain ⟨MN, mn⟩ : ∃ MN, min P1 P2 = MN := ⟨_, rfl⟩
  have wm := wrap_id m (by omega) (by omega)
  have ws := wrap_id (Q1 + m) (by omega) (by omega)
  have wd : IntKind.i64.wrap (MX - MN) = MX - MN := wrap_id _ (by omega) (by omega)
  have wq := wrap_id (Q1 + Q2) (by omega) (by omega)
  have i1 : Wd.In64 P1 := ⟨by omega, by omega⟩
  have i2 : Wd.In64 P2 := ⟨by omega, by omega⟩
  have i3 : Wd.In64 Q1 := ⟨by omega, by omega⟩
  have i4 : Wd.In64 Q2 := ⟨by omega, by omega⟩
  have i5 : Wd.In64 (Q1 + m) := ⟨by omega, by omega⟩
  have haa : wth P1 Q1 P1 Q1 = true := by
    unfold wth
    exact decide_eq_true (by omega)
  by_cases h : MX - MN ≤ Q1 + Q2
  · exact walk_y o d b o2 d2 b2 m w hT P1 P2 X1 X2 Q1 Q2 MX MN (MX - MN) e1 e2 x1 x2 e3 e4 wm ws mx mn wd wq i1 i2 i3 i4 i5 ⟨haa⟩ ⟨by unfold wth; exact decide_eq_true (by omega)⟩ ⟨by unfold wth; exact decide_eq_true (by omega)⟩ ⟨by unfold wth; exact decide_eq_true (by omega)⟩ h
  · exact walk_n o d b o2 d2 b2 m w hT P1 P2 X1 X2 Q1 Q2 MX MN (MX - MN) e1 e2 x1 x2 e3 e4 wm ws mx mn wd wq i1 i2 i3 i4 i5 ⟨haa⟩ ⟨by unfold wth; exact decide_eq_false (by omega)⟩ ⟨by unfold wth; exact decide_eq_false (by omega)⟩ h
end Go.Proofs.YtpenicjlpiechaaDoor.volleyAgrees
