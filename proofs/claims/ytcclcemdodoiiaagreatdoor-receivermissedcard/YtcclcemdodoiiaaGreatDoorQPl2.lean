/- What the program's plan.At answers. -/
import Derived.Test.YtcclcemdodoiiaaGreatDoorQRunG
import Derived.Test.YtcclcemdodoiiaaGreatDoorQPl1
import Derived.Test.YtcclcemdodoiiaaGreatDoorQWd
import Derived.WalkKit
import Derived.WalkSpells
import Derived.WalkLawsBesides
namespace Go.Proofs.YtcclcemdodoiiaaGreatDoor
set_option maxRecDepth 10000
open Go Go.RowKit
set_option linter.unusedVariables false
set_option linter.unusedSimpArgs false

set_option maxHeartbeats 4000000 in
theorem at_bad (P : Pl) (t : Int) (w : World) (hk : ¬ POk P) : Calls Tryz.prog 52 #[.agg (plc P).toArray, .int .i64 t] w fun e w' => e = .returned (.tuple #[.int .i64 0, .int .i64 1]) ∧ Below w.heap.size w w' := by
  have hM := Ms.refl w
  go_enter Tryz.func52, Tryz.ntmps52
  refine wp_seq_k fun _ κ1 => wl_region (wl_give rfl (g_box 25 _ (plc (P)) rfl ?_))
  intro w2 t_ b_
  replace hM := hM.new t_ b_
  clear t_ b_
  refine wl_fare kn ?_
  simp (disch := omega) only [fx, pv, kx]
  refine wl_nil (κ1 _ _ ?_)
  refine wp_seq_k fun _ κ3 => wp_seq_k fun _ κ4 => wl_region (wl_give rfl (g_load_all 25 _ (w.heap.size) (plc (P)) 25 _ rfl (hM.get 0 rfl) Tryz.underlying25 rfl (szPl _) ?_))
  try simp only [nz]
  refine wl_give rfl (g_cM hM (kf11 _ _) (may_no P w2 hk) rfl fun w5 hM => wl_fare kn ?_)
  simp (disch := omega) only [fx, pv, kx]
  refine wl_nil (κ4 _ _ ?_)
  refine wp_cond_true rfl (wp_seq_k fun _ κ6 => ?_)
  refine wl_region (wl_fare kn ?_)
  simp (disch := omega) only [fx, pv, kx]
  refine wl_nil (κ6 _ _ ?_)
  refine wp_ret ?_
  go_ret2
  exact ⟨rfl, hM.below⟩
set_option maxHeartbeats 4000000 in
theorem at_wait (P : Pl) (t : Int) (w : World) (hk : POk P) (ht : -9223372036854775808 ≤ t ∧ t ≤ 9223372036854775807) (Q R r1 r2 : Int) (hQ : Hid ((t - P.st) / P.lg = Q)) (hR : Hid ((t - P.st) % P.lg = R)) (h1 : Hid (Wd.cmpI Q 0 = r1)) (h2 : Hid (Wd.cmpI Q P.ct = r2)) (c1 : r1 < 0) : Calls Tryz.prog 52 #[.agg (plc P).toArray, .int .i64 t] w fun e w' => e = .returned (.tuple #[.int .i64 0, .int .i64 15]) ∧ Below w.heap.size w w' := by
  have hM := Ms.refl w
  go_enter Tryz.func52, Tryz.ntmps52
  refine wp_seq_k fun _ κ1 => wl_region (wl_give rfl (g_box 25 _ (plc (P)) rfl ?_))
  intro w2 t_ b_
  replace hM := hM.new t_ b_
  clear t_ b_
  refine wl_fare kn ?_
  simp (disch := omega) only [fx, pv, kx]
  refine wl_nil (κ1 _ _ ?_)
  refine wp_seq_k fun _ κ3 => wp_seq_k fun _ κ4 => wl_region (wl_give rfl (g_load_all 25 _ (w.heap.size) (plc (P)) 25 _ rfl (hM.get 0 rfl) Tryz.underlying25 rfl (szPl _) ?_))
  try simp only [nz]
  refine wl_give rfl (g_cM hM (kf11 _ _) (may_yes P w2 hk) rfl fun w5 hM => wl_fare kn ?_)
  simp (disch := omega) only [fx, pv, kx]
  refine wl_nil (κ4 _ _ ?_)
  refine wp_cond_false rfl (wp_skip ?_)
  refine κ3 _ _ (wp_seq_k fun _ κ6 => ?_)
  refine wp_region_steps (by kernel_rfl) (by kernel_rfl) [9, 10] [0, 0, 0, 0, 0, 0, 0, 0, 0, 0, 1, 2] [1, 1, 1, 1, 1, 1, 1, 1, 2, 1, 2, 2] (by kernel_rfl) (Pm := Nat) (fun π => [.int .i64 (t), .agg (Wd.nl (t)).toArray, .pointer (some ⟨w.heap.size, 0, none⟩), .int .i64 ((P).st), .agg (Wd.nl (P.st)).toArray, .tuple #[.agg (Wd.nl (t - P.st)).toArray, .int .i64 (0)], .tuple #[.agg (Wd.nl (t - P.st)).toArray, .int .i64 (0)], .agg (Wd.nl (t - P.st)).toArray, .int .i64 (0), .pointer (some ⟨π, 0, none⟩), undef, .int .i64 (0)]) (fun _ => by rfl) (fun j_ π wx => match j_ with | 0 => Ms w wx [blk (w.heap.size) (plc (P)) 25] | 1 => Ms w wx [blk (π) (Wd.nl (0)) 148, blk (w.heap.size) (plc (P)) 25] | _ => Ms w wx [blk (π) (Wd.nl (t - P.st)) 148, blk (w.heap.size) (plc (P)) 25]) (0) hM.drew ?_ ?_ ?_
  · intro j_ k_ o_ hj_ ho_ π wx hM
    rcases j_ with _ | _ | j_
    · obtain rfl := Option.some.inj hj_
      cases so ho_
      simp only [fullL, Act.put, st_a, st_s, st_0]
      change Ms _ _ _ at hM
      exact gw rfl (g_alloc 148 (Wd.nl (0)) Wd.zeroN (fun w' t_ b_ => ⟨(wx.heap.size), rfl, fun i h1 h2 => by rcases i with _ | _ | _ | _ | _ | _ | _ | _ | _ | _ | _ | _ | i <;> first | rfl | trivial | exact absurd rfl h2 | exact absurd h1 (by decide), hM.new t_ b_⟩))
    · obtain rfl := Option.some.inj hj_
      cases so ho_
      simp only [fullL, Act.put, st_a, st_s, st_0]
      change Ms _ _ _ at hM
      exact gw rfl (g_store_all 148 _ _ (π) (Wd.nl (t - P.st)) _ 148 rfl rfl (hM.get 0 rfl) (Wd.szN _) (rfl) (Wd.one_nl _) (fun w' t_ b_ => ⟨(π), rfl, fun i h1 h2 => by rcases i with _ | _ | _ | _ | _ | _ | _ | _ | _ | _ | _ | _ | i <;> first | rfl | trivial | exact absurd rfl h2 | exact absurd h1 (by decide), hM.put 0 rfl t_ b_⟩))
    · simp at hj_
  · intro i_ o_ ho_ hi_ j_ hd_ hh_ hj_ π wx hM
    simp only [fullL, Act.put, st_a, st_s, st_0]
    rcases i_ with _ | _ | _ | _ | _ | _ | _ | _ | _ | _ | _ | _ | i_
    · cases so ho_
      exact gw rfl (g_move _ _ rfl ⟨rfl, hM⟩)
    · cases so ho_
      rcases j_ with _ | _ | _ | j_
      · change Ms _ _ _ at hM
        exact gw rfl (g_call 75 _ _ [.int .i64 (t)] (kf75 _ _) rfl ((Wd.of_any t wx (show Wd.In64 t from ⟨by omega, by omega⟩)).mono (fun _ _ ⟨h1_, h2_⟩ => ⟨_, h1_, rfl, hM.call h2_⟩)))
      · change Ms _ _ _ at hM
        exact gw rfl (g_call 75 _ _ [.int .i64 (t)] (kf75 _ _) rfl ((Wd.of_any t wx (show Wd.In64 t from ⟨by omega, by omega⟩)).mono (fun _ _ ⟨h1_, h2_⟩ => ⟨_, h1_, rfl, hM.call h2_⟩)))
      · exact absurd hh_ (by decide)
      · exact absurd hj_ (by simp)
    · cases so ho_
      exact gw rfl (g_fa _ _ _ _ _ _ rfl (faPl0 _ _ _) ⟨rfl, hM⟩)
    · cases so ho_
      rcases j_ with _ | _ | _ | j_
      · change Ms _ _ _ at hM
        exact gw rfl (g_ld1 2 _ (w.heap.size) (0) _ rfl (ld2 _ _ _ _ ((hM.get 0 rfl).cell (0) _ (rfl))) ⟨rfl, hM⟩)
      · change Ms _ _ _ at hM
        exact gw rfl (g_ld1 2 _ (w.heap.size) (0) _ rfl (ld2 _ _ _ _ ((hM.get 1 rfl).cell (0) _ (rfl))) ⟨rfl, hM⟩)
      · exact absurd hh_ (by decide)
      · exact absurd hj_ (by simp)
    · cases so ho_
      rcases j_ with _ | _ | _ | j_
      · change Ms _ _ _ at hM
        exact gw rfl (g_call 75 _ _ [.int .i64 ((P).st)] (kf75 _ _) rfl ((Wd.of_any P.st wx (show Wd.In64 P.st from ⟨by omega, by omega⟩)).mono (fun _ _ ⟨h1_, h2_⟩ => ⟨_, h1_, rfl, hM.call h2_⟩)))
      · change Ms _ _ _ at hM
        exact gw rfl (g_call 75 _ _ [.int .i64 ((P).st)] (kf75 _ _) rfl ((Wd.of_any P.st wx (show Wd.In64 P.st from ⟨by omega, by omega⟩)).mono (fun _ _ ⟨h1_, h2_⟩ => ⟨_, h1_, rfl, hM.call h2_⟩)))
      · exact absurd hh_ (by decide)
      · exact absurd hj_ (by simp)
    · cases so ho_
      rcases j_ with _ | _ | _ | j_
      · change Ms _ _ _ at hM
        exact gw rfl (g_call 74 _ _ [.agg (Wd.nl (t)).toArray, .agg (Wd.nl (P.st)).toArray] (kf74 _ _) rfl ((Wd.sub_ok t P.st wx (show Wd.In128 t from ⟨by omega, by omega⟩) (show Wd.In128 P.st from ⟨by omega, by omega⟩) (show Wd.In128 (t - P.st) from ⟨by omega, by omega⟩)).mono (fun _ _ ⟨h1_, h2_⟩ => ⟨_, h1_, rfl, hM.call h2_⟩)))
      · change Ms _ _ _ at hM
        exact gw rfl (g_call 74 _ _ [.agg (Wd.nl (t)).toArray, .agg (Wd.nl (P.st)).toArray] (kf74 _ _) rfl ((Wd.sub_ok t P.st wx (show Wd.In128 t from ⟨by omega, by omega⟩) (show Wd.In128 P.st from ⟨by omega, by omega⟩) (show Wd.In128 (t - P.st) from ⟨by omega, by omega⟩)).mono (fun _ _ ⟨h1_, h2_⟩ => ⟨_, h1_, rfl, hM.call h2_⟩)))
      · exact absurd hh_ (by decide)
      · exact absurd hj_ (by simp)
    · cases so ho_
      exact gw rfl (g_move _ _ rfl ⟨rfl, hM⟩)
    · cases so ho_
      exact gw rfl (g_extract _ _ _ _ rfl rfl ⟨rfl, hM⟩)
    · cases so ho_
      exact gw rfl (g_extract _ _ _ _ rfl rfl ⟨rfl, hM⟩)
    · exact absurd (by decide) hi_
    · exact absurd (by decide) hi_
    · cases so ho_
      exact gw rfl (g_assign _ _ rfl ⟨rfl, hM⟩)
    · simp at ho_
  · simp only [fullL, Act.put, st_a, st_s, st_0]
    rintro p8 w7 hM
    replace hM : Ms w w7 [blk (p8) (Wd.nl (t - P.st)) 148, blk (w.heap.size) (plc (P)) 25] := hM
    refine κ6 _ _ (wp_seq_k fun _ κ9 => ?_)
    refine wl_region (wl_give rfl (g_load_all 148 _ (p8) (Wd.nl (t - P.st)) 148 _ rfl (hM.get 0 rfl) Tryz.underlying148 rfl (Wd.szN _) ?_))
    refine wl_fare kn ?_
    simp (disch := omega) only [fx, pv, kx, (hM.get 1 rfl).cell 1 (.int .i64 ((P).lg)) rfl]
    refine wl_give rfl (g_cM hM (kf76 _ _) (Wd.div_any (t - P.st) P.lg w7 (show Wd.In128 (t - P.st) from ⟨by omega, by omega⟩) (by omega) (by omega) Q R hQ hR) rfl fun w10 hM => wl_fare kn ?_)
    simp (disch := omega) only [fx, pv, kx]
    refine wl_give rfl (g_alloc 148 (Wd.nl (0)) Wd.zeroN fun w11 t_ b_ => ?_)
    replace hM := hM.new t_ b_
    clear t_ b_
    try simp only [nz]
    refine wl_give rfl (g_store_all 148 _ _ (w10.heap.size) (Wd.nl (Q)) _ 148 rfl rfl (hM.get 0 rfl) (Wd.szN _) (rfl) (Wd.one_nl _) fun w12 t_ b_ => ?_)
    replace hM : Ms w w12 [blk (w10.heap.size) (Wd.nl (Q)) 148, blk (p8) (Wd.nl (t - P.st)) 148, blk (w.heap.size) (plc (P)) 25] := hM.put 0 rfl t_ b_
    clear t_ b_
    refine wl_fare kn ?_
    simp (disch := omega) only [fx, pv, kx]
    refine wl_nil (κ9 _ _ ?_)
    refine wp_seq_k fun _ κ13 => wp_seq_k fun _ κ14 => ?_
    refine wp_region_fixed (by kernel_rfl) (by kernel_rfl) [.agg (Wd.nl (Q)).toArray, .agg (Wd.nl (0)).toArray, .int .i64 (r1), .bool true] (by rfl) (fun wx => Ms w wx [blk (w10.heap.size) (Wd.nl (Q)) 148, blk (p8) (Wd.nl (t - P.st)) 148, blk (w.heap.size) (plc (P)) 25]) hM.drew ?_ ?_
    · simp only [fullL, Act.put, st_a, st_s, st_0]
      refine ⟨?_, ?_, ?_, ?_, trivial⟩
      · exact fun wx hM => gw rfl (g_load_all 148 _ (w10.heap.size) (Wd.nl (Q)) 148 _ rfl (hM.get 0 rfl) Tryz.underlying148 rfl (Wd.szN _) ⟨rfl, hM⟩)
      · exact fun wx hM => gw rfl (g_call 75 _ _ [.int .i64 (0)] (kf75 _ _) rfl ((Wd.of_any 0 wx (show Wd.In64 0 from ⟨by omega, by omega⟩)).mono (fun _ _ ⟨h1_, h2_⟩ => ⟨_, h1_, rfl, hM.call h2_⟩)))
      · exact fun wx hM => gw rfl (g_call 77 _ _ [.agg (Wd.nl (Q)).toArray, .agg (Wd.nl (0)).toArray] (kf77 _ _) rfl ((Wd.cmp_any Q 0 wx r1 h1).mono (fun _ _ ⟨h1_, h2_⟩ => ⟨_, h1_, rfl, hM.call h2_⟩)))
      · exact fun wx hM => gw rfl (g_ilss 3 _ _ .i64 (r1) (0) true rfl rfl (decide_eq_true c1) ⟨rfl, hM⟩)
    · simp only [fullL, Act.put, st_a, st_s, st_0]
      intro w15 hM
      refine κ14 _ _ (wp_cond_true rfl ?_)
      refine wp_seq_k fun _ κ16 => wl_region (wl_fare kn ?_)
      simp (disch := omega) only [fx, pv, kx]
      refine wl_nil (κ16 _ _ ?_)
      refine wp_ret ?_
      go_ret2
      exact ⟨rfl, hM.below⟩
set_option maxHeartbeats 4000000 in
theorem at_none (P : Pl) (t : Int) (w : World) (hk : POk P) (ht : -9223372036854775808 ≤ t ∧ t ≤ 9223372036854775807) (Q R r1 r2 : Int) (hQ : Hid ((t - P.st) / P.lg = Q)) (hR : Hid ((t - P.st) % P.lg = R)) (h1 : Hid (Wd.cmpI Q 0 = r1)) (h2 : Hid (Wd.cmpI Q P.ct = r2)) (c1 : ¬ r1 < 0) (c2 : 0 ≤ r2) : Calls Tryz.prog 52 #[.agg (plc P).toArray, .int .i64 t] w fun e w' => e = .returned (.tuple #[.int .i64 0, .int .i64 10]) ∧ Below w.heap.size w w' := by
  have hM := Ms.refl w
  go_enter Tryz.func52, Tryz.ntmps52
  refine wp_seq_k fun _ κ1 => wl_region (wl_give rfl (g_box 25 _ (plc (P)) rfl ?_))
  intro w2 t_ b_
  replace hM := hM.new t_ b_
  clear t_ b_
  refine wl_fare kn ?_
  simp (disch := omega) only [fx, pv, kx]
  refine wl_nil (κ1 _ _ ?_)
  refine wp_seq_k fun _ κ3 => wp_seq_k fun _ κ4 => wl_region (wl_give rfl (g_load_all 25 _ (w.heap.size) (plc (P)) 25 _ rfl (hM.get 0 rfl) Tryz.underlying25 rfl (szPl _) ?_))
  try simp only [nz]
  refine wl_give rfl (g_cM hM (kf11 _ _) (may_yes P w2 hk) rfl fun w5 hM => wl_fare kn ?_)
  simp (disch := omega) only [fx, pv, kx]
  refine wl_nil (κ4 _ _ ?_)
  refine wp_cond_false rfl (wp_skip ?_)
  refine κ3 _ _ (wp_seq_k fun _ κ6 => ?_)
  refine wp_region_steps (by kernel_rfl) (by kernel_rfl) [9, 10] [0, 0, 0, 0, 0, 0, 0, 0, 0, 0, 1, 2] [1, 1, 1, 1, 1, 1, 1, 1, 2, 1, 2, 2] (by kernel_rfl) (Pm := Nat) (fun π => [.int .i64 (t), .agg (Wd.nl (t)).toArray, .pointer (some ⟨w.heap.size, 0, none⟩), .int .i64 ((P).st), .agg (Wd.nl (P.st)).toArray, .tuple #[.agg (Wd.nl (t - P.st)).toArray, .int .i64 (0)], .tuple #[.agg (Wd.nl (t - P.st)).toArray, .int .i64 (0)], .agg (Wd.nl (t - P.st)).toArray, .int .i64 (0), .pointer (some ⟨π, 0, none⟩), undef, .int .i64 (0)]) (fun _ => by rfl) (fun j_ π wx => match j_ with | 0 => Ms w wx [blk (w.heap.size) (plc (P)) 25] | 1 => Ms w wx [blk (π) (Wd.nl (0)) 148, blk (w.heap.size) (plc (P)) 25] | _ => Ms w wx [blk (π) (Wd.nl (t - P.st)) 148, blk (w.heap.size) (plc (P)) 25]) (0) hM.drew ?_ ?_ ?_
  · intro j_ k_ o_ hj_ ho_ π wx hM
    rcases j_ with _ | _ | j_
    · obtain rfl := Option.some.inj hj_
      cases so ho_
      simp only [fullL, Act.put, st_a, st_s, st_0]
      change Ms _ _ _ at hM
      exact gw rfl (g_alloc 148 (Wd.nl (0)) Wd.zeroN (fun w' t_ b_ => ⟨(wx.heap.size), rfl, fun i h1 h2 => by rcases i with _ | _ | _ | _ | _ | _ | _ | _ | _ | _ | _ | _ | i <;> first | rfl | trivial | exact absurd rfl h2 | exact absurd h1 (by decide), hM.new t_ b_⟩))
    · obtain rfl := Option.some.inj hj_
      cases so ho_
      simp only [fullL, Act.put, st_a, st_s, st_0]
      change Ms _ _ _ at hM
      exact gw rfl (g_store_all 148 _ _ (π) (Wd.nl (t - P.st)) _ 148 rfl rfl (hM.get 0 rfl) (Wd.szN _) (rfl) (Wd.one_nl _) (fun w' t_ b_ => ⟨(π), rfl, fun i h1 h2 => by rcases i with _ | _ | _ | _ | _ | _ | _ | _ | _ | _ | _ | _ | i <;> first | rfl | trivial | exact absurd rfl h2 | exact absurd h1 (by decide), hM.put 0 rfl t_ b_⟩))
    · simp at hj_
  · intro i_ o_ ho_ hi_ j_ hd_ hh_ hj_ π wx hM
    simp only [fullL, Act.put, st_a, st_s, st_0]
    rcases i_ with _ | _ | _ | _ | _ | _ | _ | _ | _ | _ | _ | _ | i_
    · cases so ho_
      exact gw rfl (g_move _ _ rfl ⟨rfl, hM⟩)
    · cases so ho_
      rcases j_ with _ | _ | _ | j_
      · change Ms _ _ _ at hM
        exact gw rfl (g_call 75 _ _ [.int .i64 (t)] (kf75 _ _) rfl ((Wd.of_any t wx (show Wd.In64 t from ⟨by omega, by omega⟩)).mono (fun _ _ ⟨h1_, h2_⟩ => ⟨_, h1_, rfl, hM.call h2_⟩)))
      · change Ms _ _ _ at hM
        exact gw rfl (g_call 75 _ _ [.int .i64 (t)] (kf75 _ _) rfl ((Wd.of_any t wx (show Wd.In64 t from ⟨by omega, by omega⟩)).mono (fun _ _ ⟨h1_, h2_⟩ => ⟨_, h1_, rfl, hM.call h2_⟩)))
      · exact absurd hh_ (by decide)
      · exact absurd hj_ (by simp)
    · cases so ho_
      exact gw rfl (g_fa _ _ _ _ _ _ rfl (faPl0 _ _ _) ⟨rfl, hM⟩)
    · cases so ho_
      rcases j_ with _ | _ | _ | j_
      · change Ms _ _ _ at hM
        exact gw rfl (g_ld1 2 _ (w.heap.size) (0) _ rfl (ld2 _ _ _ _ ((hM.get 0 rfl).cell (0) _ (rfl))) ⟨rfl, hM⟩)
      · change Ms _ _ _ at hM
        exact gw rfl (g_ld1 2 _ (w.heap.size) (0) _ rfl (ld2 _ _ _ _ ((hM.get 1 rfl).cell (0) _ (rfl))) ⟨rfl, hM⟩)
      · exact absurd hh_ (by decide)
      · exact absurd hj_ (by simp)
    · cases so ho_
      rcases j_ with _ | _ | _ | j_
      · change Ms _ _ _ at hM
        exact gw rfl (g_call 75 _ _ [.int .i64 ((P).st)] (kf75 _ _) rfl ((Wd.of_any P.st wx (show Wd.In64 P.st from ⟨by omega, by omega⟩)).mono (fun _ _ ⟨h1_, h2_⟩ => ⟨_, h1_, rfl, hM.call h2_⟩)))
      · change Ms _ _ _ at hM
        exact gw rfl (g_call 75 _ _ [.int .i64 ((P).st)] (kf75 _ _) rfl ((Wd.of_any P.st wx (show Wd.In64 P.st from ⟨by omega, by omega⟩)).mono (fun _ _ ⟨h1_, h2_⟩ => ⟨_, h1_, rfl, hM.call h2_⟩)))
      · exact absurd hh_ (by decide)
      · exact absurd hj_ (by simp)
    · cases so ho_
      rcases j_ with _ | _ | _ | j_
      · change Ms _ _ _ at hM
        exact gw rfl (g_call 74 _ _ [.agg (Wd.nl (t)).toArray, .agg (Wd.nl (P.st)).toArray] (kf74 _ _) rfl ((Wd.sub_ok t P.st wx (show Wd.In128 t from ⟨by omega, by omega⟩) (show Wd.In128 P.st from ⟨by omega, by omega⟩) (show Wd.In128 (t - P.st) from ⟨by omega, by omega⟩)).mono (fun _ _ ⟨h1_, h2_⟩ => ⟨_, h1_, rfl, hM.call h2_⟩)))
      · change Ms _ _ _ at hM
        exact gw rfl (g_call 74 _ _ [.agg (Wd.nl (t)).toArray, .agg (Wd.nl (P.st)).toArray] (kf74 _ _) rfl ((Wd.sub_ok t P.st wx (show Wd.In128 t from ⟨by omega, by omega⟩) (show Wd.In128 P.st from ⟨by omega, by omega⟩) (show Wd.In128 (t - P.st) from ⟨by omega, by omega⟩)).mono (fun _ _ ⟨h1_, h2_⟩ => ⟨_, h1_, rfl, hM.call h2_⟩)))
      · exact absurd hh_ (by decide)
      · exact absurd hj_ (by simp)
    · cases so ho_
      exact gw rfl (g_move _ _ rfl ⟨rfl, hM⟩)
    · cases so ho_
      exact gw rfl (g_extract _ _ _ _ rfl rfl ⟨rfl, hM⟩)
    · cases so ho_
      exact gw rfl (g_extract _ _ _ _ rfl rfl ⟨rfl, hM⟩)
    · exact absurd (by decide) hi_
    · exact absurd (by decide) hi_
    · cases so ho_
      exact gw rfl (g_assign _ _ rfl ⟨rfl, hM⟩)
    · simp at ho_
  · simp only [fullL, Act.put, st_a, st_s, st_0]
    rintro p8 w7 hM
    replace hM : Ms w w7 [blk (p8) (Wd.nl (t - P.st)) 148, blk (w.heap.size) (plc (P)) 25] := hM
    refine κ6 _ _ (wp_seq_k fun _ κ9 => ?_)
    refine wl_region (wl_give rfl (g_load_all 148 _ (p8) (Wd.nl (t - P.st)) 148 _ rfl (hM.get 0 rfl) Tryz.underlying148 rfl (Wd.szN _) ?_))
    refine wl_fare kn ?_
    simp (disch := omega) only [fx, pv, kx, (hM.get 1 rfl).cell 1 (.int .i64 ((P).lg)) rfl]
    refine wl_give rfl (g_cM hM (kf76 _ _) (Wd.div_any (t - P.st) P.lg w7 (show Wd.In128 (t - P.st) from ⟨by omega, by omega⟩) (by omega) (by omega) Q R hQ hR) rfl fun w10 hM => wl_fare kn ?_)
    simp (disch := omega) only [fx, pv, kx]
    refine wl_give rfl (g_alloc 148 (Wd.nl (0)) Wd.zeroN fun w11 t_ b_ => ?_)
    replace hM := hM.new t_ b_
    clear t_ b_
    try simp only [nz]
    refine wl_give rfl (g_store_all 148 _ _ (w10.heap.size) (Wd.nl (Q)) _ 148 rfl rfl (hM.get 0 rfl) (Wd.szN _) (rfl) (Wd.one_nl _) fun w12 t_ b_ => ?_)
    replace hM : Ms w w12 [blk (w10.heap.size) (Wd.nl (Q)) 148, blk (p8) (Wd.nl (t - P.st)) 148, blk (w.heap.size) (plc (P)) 25] := hM.put 0 rfl t_ b_
    clear t_ b_
    refine wl_fare kn ?_
    simp (disch := omega) only [fx, pv, kx]
    refine wl_nil (κ9 _ _ ?_)
    refine wp_seq_k fun _ κ13 => wp_seq_k fun _ κ14 => ?_
    refine wp_region_fixed (by kernel_rfl) (by kernel_rfl) [.agg (Wd.nl (Q)).toArray, .agg (Wd.nl (0)).toArray, .int .i64 (r1), .bool false] (by rfl) (fun wx => Ms w wx [blk (w10.heap.size) (Wd.nl (Q)) 148, blk (p8) (Wd.nl (t - P.st)) 148, blk (w.heap.size) (plc (P)) 25]) hM.drew ?_ ?_
    · simp only [fullL, Act.put, st_a, st_s, st_0]
      refine ⟨?_, ?_, ?_, ?_, trivial⟩
      · exact fun wx hM => gw rfl (g_load_all 148 _ (w10.heap.size) (Wd.nl (Q)) 148 _ rfl (hM.get 0 rfl) Tryz.underlying148 rfl (Wd.szN _) ⟨rfl, hM⟩)
      · exact fun wx hM => gw rfl (g_call 75 _ _ [.int .i64 (0)] (kf75 _ _) rfl ((Wd.of_any 0 wx (show Wd.In64 0 from ⟨by omega, by omega⟩)).mono (fun _ _ ⟨h1_, h2_⟩ => ⟨_, h1_, rfl, hM.call h2_⟩)))
      · exact fun wx hM => gw rfl (g_call 77 _ _ [.agg (Wd.nl (Q)).toArray, .agg (Wd.nl (0)).toArray] (kf77 _ _) rfl ((Wd.cmp_any Q 0 wx r1 h1).mono (fun _ _ ⟨h1_, h2_⟩ => ⟨_, h1_, rfl, hM.call h2_⟩)))
      · exact fun wx hM => gw rfl (g_ilss 3 _ _ .i64 (r1) (0) false rfl rfl (decide_eq_false c1) ⟨rfl, hM⟩)
    · simp only [fullL, Act.put, st_a, st_s, st_0]
      intro w15 hM
      refine κ14 _ _ (wp_cond_false rfl ?_)
      refine wp_skip (κ13 _ _ ?_)
      refine wp_seq_k fun _ κ16 => wp_seq_k fun _ κ17 => ?_
      refine wp_region_fixed (by kernel_rfl) (by kernel_rfl) [.agg (Wd.nl (Q)).toArray, .pointer (some ⟨w.heap.size, 3, none⟩), .int .i64 ((P).ct), .agg (Wd.nl (P.ct)).toArray, .int .i64 (r2), .bool true] (by rfl) (fun wx => Ms w wx [blk (w10.heap.size) (Wd.nl (Q)) 148, blk (p8) (Wd.nl (t - P.st)) 148, blk (w.heap.size) (plc (P)) 25]) hM.drew ?_ ?_
      · simp only [fullL, Act.put, st_a, st_s, st_0]
        refine ⟨?_, ?_, ?_, ?_, ?_, ?_, trivial⟩
        · exact fun wx hM => gw rfl (g_load_all 148 _ (w10.heap.size) (Wd.nl (Q)) 148 _ rfl (hM.get 0 rfl) Tryz.underlying148 rfl (Wd.szN _) ⟨rfl, hM⟩)
        · exact faL rfl rfl (fun _ => faPl3 _ _ _)
        · exact fun wx hM => gw rfl (g_ld1 3 _ (w.heap.size) (3) _ rfl (ld3 _ _ _ _ ((hM.get 2 rfl).cell (3) _ (rfl))) ⟨rfl, hM⟩)
        · exact fun wx hM => gw rfl (g_call 75 _ _ [.int .i64 ((P).ct)] (kf75 _ _) rfl ((Wd.of_any P.ct wx (show Wd.In64 P.ct from ⟨by omega, by omega⟩)).mono (fun _ _ ⟨h1_, h2_⟩ => ⟨_, h1_, rfl, hM.call h2_⟩)))
        · exact fun wx hM => gw rfl (g_call 77 _ _ [.agg (Wd.nl (Q)).toArray, .agg (Wd.nl (P.ct)).toArray] (kf77 _ _) rfl ((Wd.cmp_any Q P.ct wx r2 h2).mono (fun _ _ ⟨h1_, h2_⟩ => ⟨_, h1_, rfl, hM.call h2_⟩)))
        · exact fun wx hM => gw rfl (g_igeq 3 _ _ .i64 (r2) (0) true rfl rfl (decide_eq_true c2) ⟨rfl, hM⟩)
      · simp only [fullL, Act.put, st_a, st_s, st_0]
        intro w18 hM
        refine κ17 _ _ (wp_cond_true rfl ?_)
        refine wp_seq_k fun _ κ19 => wl_region (wl_fare kn ?_)
        simp (disch := omega) only [fx, pv, kx]
        refine wl_nil (κ19 _ _ ?_)
        refine wp_ret ?_
        go_ret2
        exact ⟨rfl, hM.below⟩
set_option maxHeartbeats 4000000 in
theorem at_in (P : Pl) (t : Int) (w : World) (hk : POk P) (ht : -9223372036854775808 ≤ t ∧ t ≤ 9223372036854775807) (Q R r1 r2 : Int) (hQ : Hid ((t - P.st) / P.lg = Q)) (hR : Hid ((t - P.st) % P.lg = R)) (h1 : Hid (Wd.cmpI Q 0 = r1)) (h2 : Hid (Wd.cmpI Q P.ct = r2)) (c1 : ¬ r1 < 0) (c2 : ¬ 0 ≤ r2) (J : Int) (eC : Shut (IntKind.i64.wrap (Q % 18446744073709551616) = Q)) (eJ : Shut (IntKind.i64.wrap (Q + 1) = J)) : Calls Tryz.prog 52 #[.agg (plc P).toArray, .int .i64 t] w fun e w' => e = .returned (.tuple #[.int .i64 J, .int .i64 0]) ∧ Below w.heap.size w w' := by
  have hM := Ms.refl w
  go_enter Tryz.func52, Tryz.ntmps52
  refine wp_seq_k fun _ κ1 => wl_region (wl_give rfl (g_box 25 _ (plc (P)) rfl ?_))
  intro w2 t_ b_
  replace hM := hM.new t_ b_
  clear t_ b_
  refine wl_fare kn ?_
  simp (disch := omega) only [fx, pv, kx]
  refine wl_nil (κ1 _ _ ?_)
  refine wp_seq_k fun _ κ3 => wp_seq_k fun _ κ4 => wl_region (wl_give rfl (g_load_all 25 _ (w.heap.size) (plc (P)) 25 _ rfl (hM.get 0 rfl) Tryz.underlying25 rfl (szPl _) ?_))
  try simp only [nz]
  refine wl_give rfl (g_cM hM (kf11 _ _) (may_yes P w2 hk) rfl fun w5 hM => wl_fare kn ?_)
  simp (disch := omega) only [fx, pv, kx]
  refine wl_nil (κ4 _ _ ?_)
  refine wp_cond_false rfl (wp_skip ?_)
  refine κ3 _ _ (wp_seq_k fun _ κ6 => ?_)
  refine wp_region_steps (by kernel_rfl) (by kernel_rfl) [9, 10] [0, 0, 0, 0, 0, 0, 0, 0, 0, 0, 1, 2] [1, 1, 1, 1, 1, 1, 1, 1, 2, 1, 2, 2] (by kernel_rfl) (Pm := Nat) (fun π => [.int .i64 (t), .agg (Wd.nl (t)).toArray, .pointer (some ⟨w.heap.size, 0, none⟩), .int .i64 ((P).st), .agg (Wd.nl (P.st)).toArray, .tuple #[.agg (Wd.nl (t - P.st)).toArray, .int .i64 (0)], .tuple #[.agg (Wd.nl (t - P.st)).toArray, .int .i64 (0)], .agg (Wd.nl (t - P.st)).toArray, .int .i64 (0), .pointer (some ⟨π, 0, none⟩), undef, .int .i64 (0)]) (fun _ => by rfl) (fun j_ π wx => match j_ with | 0 => Ms w wx [blk (w.heap.size) (plc (P)) 25] | 1 => Ms w wx [blk (π) (Wd.nl (0)) 148, blk (w.heap.size) (plc (P)) 25] | _ => Ms w wx [blk (π) (Wd.nl (t - P.st)) 148, blk (w.heap.size) (plc (P)) 25]) (0) hM.drew ?_ ?_ ?_
  · intro j_ k_ o_ hj_ ho_ π wx hM
    rcases j_ with _ | _ | j_
    · obtain rfl := Option.some.inj hj_
      cases so ho_
      simp only [fullL, Act.put, st_a, st_s, st_0]
      change Ms _ _ _ at hM
      exact gw rfl (g_alloc 148 (Wd.nl (0)) Wd.zeroN (fun w' t_ b_ => ⟨(wx.heap.size), rfl, fun i h1 h2 => by rcases i with _ | _ | _ | _ | _ | _ | _ | _ | _ | _ | _ | _ | i <;> first | rfl | trivial | exact absurd rfl h2 | exact absurd h1 (by decide), hM.new t_ b_⟩))
    · obtain rfl := Option.some.inj hj_
      cases so ho_
      simp only [fullL, Act.put, st_a, st_s, st_0]
      change Ms _ _ _ at hM
      exact gw rfl (g_store_all 148 _ _ (π) (Wd.nl (t - P.st)) _ 148 rfl rfl (hM.get 0 rfl) (Wd.szN _) (rfl) (Wd.one_nl _) (fun w' t_ b_ => ⟨(π), rfl, fun i h1 h2 => by rcases i with _ | _ | _ | _ | _ | _ | _ | _ | _ | _ | _ | _ | i <;> first | rfl | trivial | exact absurd rfl h2 | exact absurd h1 (by decide), hM.put 0 rfl t_ b_⟩))
    · simp at hj_
  · intro i_ o_ ho_ hi_ j_ hd_ hh_ hj_ π wx hM
    simp only [fullL, Act.put, st_a, st_s, st_0]
    rcases i_ with _ | _ | _ | _ | _ | _ | _ | _ | _ | _ | _ | _ | i_
    · cases so ho_
      exact gw rfl (g_move _ _ rfl ⟨rfl, hM⟩)
    · cases so ho_
      rcases j_ with _ | _ | _ | j_
      · change Ms _ _ _ at hM
        exact gw rfl (g_call 75 _ _ [.int .i64 (t)] (kf75 _ _) rfl ((Wd.of_any t wx (show Wd.In64 t from ⟨by omega, by omega⟩)).mono (fun _ _ ⟨h1_, h2_⟩ => ⟨_, h1_, rfl, hM.call h2_⟩)))
      · change Ms _ _ _ at hM
        exact gw rfl (g_call 75 _ _ [.int .i64 (t)] (kf75 _ _) rfl ((Wd.of_any t wx (show Wd.In64 t from ⟨by omega, by omega⟩)).mono (fun _ _ ⟨h1_, h2_⟩ => ⟨_, h1_, rfl, hM.call h2_⟩)))
      · exact absurd hh_ (by decide)
      · exact absurd hj_ (by simp)
    · cases so ho_
      exact gw rfl (g_fa _ _ _ _ _ _ rfl (faPl0 _ _ _) ⟨rfl, hM⟩)
    · cases so ho_
      rcases j_ with _ | _ | _ | j_
      · change Ms _ _ _ at hM
        exact gw rfl (g_ld1 2 _ (w.heap.size) (0) _ rfl (ld2 _ _ _ _ ((hM.get 0 rfl).cell (0) _ (rfl))) ⟨rfl, hM⟩)
      · change Ms _ _ _ at hM
        exact gw rfl (g_ld1 2 _ (w.heap.size) (0) _ rfl (ld2 _ _ _ _ ((hM.get 1 rfl).cell (0) _ (rfl))) ⟨rfl, hM⟩)
      · exact absurd hh_ (by decide)
      · exact absurd hj_ (by simp)
    · cases so ho_
      rcases j_ with _ | _ | _ | j_
      · change Ms _ _ _ at hM
        exact gw rfl (g_call 75 _ _ [.int .i64 ((P).st)] (kf75 _ _) rfl ((Wd.of_any P.st wx (show Wd.In64 P.st from ⟨by omega, by omega⟩)).mono (fun _ _ ⟨h1_, h2_⟩ => ⟨_, h1_, rfl, hM.call h2_⟩)))
      · change Ms _ _ _ at hM
        exact gw rfl (g_call 75 _ _ [.int .i64 ((P).st)] (kf75 _ _) rfl ((Wd.of_any P.st wx (show Wd.In64 P.st from ⟨by omega, by omega⟩)).mono (fun _ _ ⟨h1_, h2_⟩ => ⟨_, h1_, rfl, hM.call h2_⟩)))
      · exact absurd hh_ (by decide)
      · exact absurd hj_ (by simp)
    · cases so ho_
      rcases j_ with _ | _ | _ | j_
      · change Ms _ _ _ at hM
        exact gw rfl (g_call 74 _ _ [.agg (Wd.nl (t)).toArray, .agg (Wd.nl (P.st)).toArray] (kf74 _ _) rfl ((Wd.sub_ok t P.st wx (show Wd.In128 t from ⟨by omega, by omega⟩) (show Wd.In128 P.st from ⟨by omega, by omega⟩) (show Wd.In128 (t - P.st) from ⟨by omega, by omega⟩)).mono (fun _ _ ⟨h1_, h2_⟩ => ⟨_, h1_, rfl, hM.call h2_⟩)))
      · change Ms _ _ _ at hM
        exact gw rfl (g_call 74 _ _ [.agg (Wd.nl (t)).toArray, .agg (Wd.nl (P.st)).toArray] (kf74 _ _) rfl ((Wd.sub_ok t P.st wx (show Wd.In128 t from ⟨by omega, by omega⟩) (show Wd.In128 P.st from ⟨by omega, by omega⟩) (show Wd.In128 (t - P.st) from ⟨by omega, by omega⟩)).mono (fun _ _ ⟨h1_, h2_⟩ => ⟨_, h1_, rfl, hM.call h2_⟩)))
      · exact absurd hh_ (by decide)
      · exact absurd hj_ (by simp)
    · cases so ho_
      exact gw rfl (g_move _ _ rfl ⟨rfl, hM⟩)
    · cases so ho_
      exact gw rfl (g_extract _ _ _ _ rfl rfl ⟨rfl, hM⟩)
    · cases so ho_
      exact gw rfl (g_extract _ _ _ _ rfl rfl ⟨rfl, hM⟩)
    · exact absurd (by decide) hi_
    · exact absurd (by decide) hi_
    · cases so ho_
      exact gw rfl (g_assign _ _ rfl ⟨rfl, hM⟩)
    · simp at ho_
  · simp only [fullL, Act.put, st_a, st_s, st_0]
    rintro p8 w7 hM
    replace hM : Ms w w7 [blk (p8) (Wd.nl (t - P.st)) 148, blk (w.heap.size) (plc (P)) 25] := hM
    refine κ6 _ _ (wp_seq_k fun _ κ9 => ?_)
    refine wl_region (wl_give rfl (g_load_all 148 _ (p8) (Wd.nl (t - P.st)) 148 _ rfl (hM.get 0 rfl) Tryz.underlying148 rfl (Wd.szN _) ?_))
    refine wl_fare kn ?_
    simp (disch := omega) only [fx, pv, kx, (hM.get 1 rfl).cell 1 (.int .i64 ((P).lg)) rfl]
    refine wl_give rfl (g_cM hM (kf76 _ _) (Wd.div_any (t - P.st) P.lg w7 (show Wd.In128 (t - P.st) from ⟨by omega, by omega⟩) (by omega) (by omega) Q R hQ hR) rfl fun w10 hM => wl_fare kn ?_)
    simp (disch := omega) only [fx, pv, kx]
    refine wl_give rfl (g_alloc 148 (Wd.nl (0)) Wd.zeroN fun w11 t_ b_ => ?_)
    replace hM := hM.new t_ b_
    clear t_ b_
    try simp only [nz]
    refine wl_give rfl (g_store_all 148 _ _ (w10.heap.size) (Wd.nl (Q)) _ 148 rfl rfl (hM.get 0 rfl) (Wd.szN _) (rfl) (Wd.one_nl _) fun w12 t_ b_ => ?_)
    replace hM : Ms w w12 [blk (w10.heap.size) (Wd.nl (Q)) 148, blk (p8) (Wd.nl (t - P.st)) 148, blk (w.heap.size) (plc (P)) 25] := hM.put 0 rfl t_ b_
    clear t_ b_
    refine wl_fare kn ?_
    simp (disch := omega) only [fx, pv, kx]
    refine wl_nil (κ9 _ _ ?_)
    refine wp_seq_k fun _ κ13 => wp_seq_k fun _ κ14 => ?_
    refine wp_region_fixed (by kernel_rfl) (by kernel_rfl) [.agg (Wd.nl (Q)).toArray, .agg (Wd.nl (0)).toArray, .int .i64 (r1), .bool false] (by rfl) (fun wx => Ms w wx [blk (w10.heap.size) (Wd.nl (Q)) 148, blk (p8) (Wd.nl (t - P.st)) 148, blk (w.heap.size) (plc (P)) 25]) hM.drew ?_ ?_
    · simp only [fullL, Act.put, st_a, st_s, st_0]
      refine ⟨?_, ?_, ?_, ?_, trivial⟩
      · exact fun wx hM => gw rfl (g_load_all 148 _ (w10.heap.size) (Wd.nl (Q)) 148 _ rfl (hM.get 0 rfl) Tryz.underlying148 rfl (Wd.szN _) ⟨rfl, hM⟩)
      · exact fun wx hM => gw rfl (g_call 75 _ _ [.int .i64 (0)] (kf75 _ _) rfl ((Wd.of_any 0 wx (show Wd.In64 0 from ⟨by omega, by omega⟩)).mono (fun _ _ ⟨h1_, h2_⟩ => ⟨_, h1_, rfl, hM.call h2_⟩)))
      · exact fun wx hM => gw rfl (g_call 77 _ _ [.agg (Wd.nl (Q)).toArray, .agg (Wd.nl (0)).toArray] (kf77 _ _) rfl ((Wd.cmp_any Q 0 wx r1 h1).mono (fun _ _ ⟨h1_, h2_⟩ => ⟨_, h1_, rfl, hM.call h2_⟩)))
      · exact fun wx hM => gw rfl (g_ilss 3 _ _ .i64 (r1) (0) false rfl rfl (decide_eq_false c1) ⟨rfl, hM⟩)
    · simp only [fullL, Act.put, st_a, st_s, st_0]
      intro w15 hM
      refine κ14 _ _ (wp_cond_false rfl ?_)
      refine wp_skip (κ13 _ _ ?_)
      refine wp_seq_k fun _ κ16 => wp_seq_k fun _ κ17 => ?_
      refine wp_region_fixed (by kernel_rfl) (by kernel_rfl) [.agg (Wd.nl (Q)).toArray, .pointer (some ⟨w.heap.size, 3, none⟩), .int .i64 ((P).ct), .agg (Wd.nl (P.ct)).toArray, .int .i64 (r2), .bool false] (by rfl) (fun wx => Ms w wx [blk (w10.heap.size) (Wd.nl (Q)) 148, blk (p8) (Wd.nl (t - P.st)) 148, blk (w.heap.size) (plc (P)) 25]) hM.drew ?_ ?_
      · simp only [fullL, Act.put, st_a, st_s, st_0]
        refine ⟨?_, ?_, ?_, ?_, ?_, ?_, trivial⟩
        · exact fun wx hM => gw rfl (g_load_all 148 _ (w10.heap.size) (Wd.nl (Q)) 148 _ rfl (hM.get 0 rfl) Tryz.underlying148 rfl (Wd.szN _) ⟨rfl, hM⟩)
        · exact faL rfl rfl (fun _ => faPl3 _ _ _)
        · exact fun wx hM => gw rfl (g_ld1 3 _ (w.heap.size) (3) _ rfl (ld3 _ _ _ _ ((hM.get 2 rfl).cell (3) _ (rfl))) ⟨rfl, hM⟩)
        · exact fun wx hM => gw rfl (g_call 75 _ _ [.int .i64 ((P).ct)] (kf75 _ _) rfl ((Wd.of_any P.ct wx (show Wd.In64 P.ct from ⟨by omega, by omega⟩)).mono (fun _ _ ⟨h1_, h2_⟩ => ⟨_, h1_, rfl, hM.call h2_⟩)))
        · exact fun wx hM => gw rfl (g_call 77 _ _ [.agg (Wd.nl (Q)).toArray, .agg (Wd.nl (P.ct)).toArray] (kf77 _ _) rfl ((Wd.cmp_any Q P.ct wx r2 h2).mono (fun _ _ ⟨h1_, h2_⟩ => ⟨_, h1_, rfl, hM.call h2_⟩)))
        · exact fun wx hM => gw rfl (g_igeq 3 _ _ .i64 (r2) (0) false rfl rfl (decide_eq_false c2) ⟨rfl, hM⟩)
      · simp only [fullL, Act.put, st_a, st_s, st_0]
        intro w18 hM
        refine κ17 _ _ (wp_cond_false rfl ?_)
        refine wp_skip (κ16 _ _ ?_)
        refine wp_seq_k fun _ κ19 => wl_region (wl_fare kn ?_)
        simp (disch := omega) only [fx, pv, kx, (hM.get 0 rfl).cell 1 (.int .u64 ((Q) % 18446744073709551616)) rfl]
        refine wl_give rfl (g_cvI _ ((Q) % 18446744073709551616) (Q) rfl (eC.out) ?_)
        refine wl_fare kn ?_
        simp (disch := omega) only [fx, pv, kx, (eJ.out : IntKind.i64.wrap ((Q) + (1)) = J)]
        refine wl_nil (κ19 _ _ ?_)
        refine wp_ret ?_
        go_ret2
        exact ⟨rfl, hM.below⟩
theorem pat_any (P : Pl) (t : Int) (w : World) (ht : -9223372036854775808 ≤ t ∧ t ≤ 9223372036854775807) (J E : Int) (h : Shut (pat P t = (J, E))) : Calls Tryz.prog 52 #[.agg (plc P).toArray, .int .i64 t] w fun e w' => e = .returned (.tuple #[.int .i64 J, .int .i64 E]) ∧ Below w.heap.size w w' := by
  have h := h.out
  unfold pat at h
  by_cases hk : POk P
  · rw [if_neg (fun hn => hn hk)] at h
    have hsgn : (t - P.st) / P.lg < 0 ↔ t < P.st := by
      rw [Int.ediv_lt_iff_lt_mul (show 0 < P.lg by omega), Int.zero_mul]; omega
    by_cases h1 : t < P.st
    · rw [if_pos h1] at h; cases h
      exact at_wait P t w hk ht _ _ _ _ rfl rfl rfl rfl (by have := hsgn.2 h1; unfold Wd.cmpI; rw [if_pos this]; decide)
    · have hq : ¬ (t - P.st) / P.lg < 0 := fun hn => h1 (hsgn.1 hn)
      have c1 : ¬ Wd.cmpI ((t - P.st) / P.lg) 0 < 0 := by unfold Wd.cmpI; rw [if_neg hq]; split <;> decide
      rw [if_neg h1] at h
      by_cases h2 : P.ct ≤ (t - P.st) / P.lg
      · rw [if_pos h2] at h; cases h
        exact at_none P t w hk ht _ _ _ _ rfl rfl rfl rfl c1 (by unfold Wd.cmpI; rw [if_neg (by omega)]; split <;> decide)
      · rw [if_neg h2] at h; cases h
        exact at_in P t w hk ht _ _ _ _ rfl rfl rfl rfl c1 (by unfold Wd.cmpI; rw [if_pos (by omega)]; decide) _ ⟨by rw [Int.emod_eq_of_lt (by omega) (by omega)]; exact wrap_id _ (by omega) (by omega)⟩ ⟨wrap_id _ (by omega) (by omega)⟩
  · rw [if_pos hk] at h; cases h; exact at_bad P t w hk
end Go.Proofs.YtcclcemdodoiiaaGreatDoor
