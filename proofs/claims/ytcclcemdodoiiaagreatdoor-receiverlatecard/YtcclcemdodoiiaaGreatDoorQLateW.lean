/- ReceiverLate: the walk. -/
import Derived.Test.YtcclcemdodoiiaaGreatDoorQRcM3
import Derived.Test.YtcclcemdodoiiaaGreatDoorQAwake
import Derived.Test.YtcclcemdodoiiaaGreatDoorQArgs
import Derived.WalkKit
import Derived.WalkSpells
import Derived.WalkLawsBesides
namespace Go.Proofs.YtcclcemdodoiiaaGreatDoor.receiverLate
set_option maxRecDepth 10000
open Go Go.RowKit
set_option linter.unusedVariables false
set_option linter.unusedSimpArgs false

set_option maxHeartbeats 4000000 in
theorem walk_1 (s : Ky) (P : Pl) (z v : Int) (x : ByteArray) (w : World) (hT : Tabs w) (hP : ¬ POk P) : Calls Tryz.prog 5 #[.agg (kc s).toArray, .agg (plc P).toArray, .int .u16 z, .int .u16 v, .string x] w fun e w' => e = .returned (.bool true) ∧ Below w.heap.size w w' := by
  have hM := Ms.refl w
  go_enter Tryz.func5, Tryz.ntmps5
  refine wp_seq_k fun _ κ1 => wl_region (wl_give rfl (g_box 23 _ (kc (s)) rfl ?_))
  intro w2 t_ b_
  replace hM := hM.new t_ b_
  clear t_ b_
  try simp only [nz]
  refine wl_give rfl (g_box 25 _ (plc (P)) rfl fun w3 t_ b_ => ?_)
  replace hM := hM.new t_ b_
  clear t_ b_
  refine wl_fare kn ?_
  simp (disch := omega) only [fx, pv, kx]
  refine wl_nil (κ1 _ _ ?_)
  refine wp_seq_k fun _ κ4 => wp_seq_k fun _ κ5 => wl_region (wl_give rfl (g_cM hM (kf10 _ _) (awake_any w3 (hM.tabs hT)) rfl ?_))
  intro w6 hM
  refine wl_fare kn ?_
  simp (disch := omega) only [fx, pv, kx]
  refine wl_nil (κ5 _ _ ?_)
  refine wp_cond_false rfl (wp_skip ?_)
  refine κ4 _ _ (wp_seq_k fun _ κ7 => ?_)
  refine wp_seq_k fun _ κ8 => wl_region (wl_give rfl (g_load_all 25 _ (w2.heap.size) (plc (P)) 25 _ rfl (hM.get 0 rfl) Tryz.underlying25 rfl (szPl _) ?_))
  try simp only [nz]
  refine wl_give rfl (g_cM hM (kf11 _ _) (may_no P w6 hP) rfl fun w9 hM => wl_fare kn ?_)
  simp (config := { maxSteps := 10000000 }) (disch := omega) only [fx, pv, kx]
  refine wl_nil (κ8 _ _ ?_)
  refine wp_cond_true rfl (wp_seq_k fun _ κ10 => ?_)
  refine wl_region (wl_fare kn ?_)
  simp (disch := omega) only [fx, pv, kx]
  refine wl_nil (κ10 _ _ ?_)
  refine wp_ret ?_
  go_ret
  exact ⟨rfl, hM.below⟩
set_option maxHeartbeats 4000000 in
theorem walk_2 (s : Ky) (P : Pl) (z v : Int) (x : ByteArray) (w : World) (hT : Tabs w) (hP : POk P) (h1 : 16 < P.ct) : Calls Tryz.prog 5 #[.agg (kc s).toArray, .agg (plc P).toArray, .int .u16 z, .int .u16 v, .string x] w fun e w' => e = .returned (.bool true) ∧ Below w.heap.size w w' := by
  have hM := Ms.refl w
  go_enter Tryz.func5, Tryz.ntmps5
  refine wp_seq_k fun _ κ1 => wl_region (wl_give rfl (g_box 23 _ (kc (s)) rfl ?_))
  intro w2 t_ b_
  replace hM := hM.new t_ b_
  clear t_ b_
  try simp only [nz]
  refine wl_give rfl (g_box 25 _ (plc (P)) rfl fun w3 t_ b_ => ?_)
  replace hM := hM.new t_ b_
  clear t_ b_
  refine wl_fare kn ?_
  simp (disch := omega) only [fx, pv, kx]
  refine wl_nil (κ1 _ _ ?_)
  refine wp_seq_k fun _ κ4 => wp_seq_k fun _ κ5 => wl_region (wl_give rfl (g_cM hM (kf10 _ _) (awake_any w3 (hM.tabs hT)) rfl ?_))
  intro w6 hM
  refine wl_fare kn ?_
  simp (disch := omega) only [fx, pv, kx]
  refine wl_nil (κ5 _ _ ?_)
  refine wp_cond_false rfl (wp_skip ?_)
  refine κ4 _ _ (wp_seq_k fun _ κ7 => ?_)
  refine wp_seq_k fun _ κ8 => wl_region (wl_give rfl (g_load_all 25 _ (w2.heap.size) (plc (P)) 25 _ rfl (hM.get 0 rfl) Tryz.underlying25 rfl (szPl _) ?_))
  try simp only [nz]
  refine wl_give rfl (g_cM hM (kf11 _ _) (may_yes P w6 hP) rfl fun w9 hM => wl_fare kn ?_)
  simp (config := { maxSteps := 10000000 }) (disch := omega) only [fx, pv, kx, (hM.get 0 rfl).cell 3 (.int .i64 ((P).ct)) rfl]
  refine wl_nil (κ8 _ _ ?_)
  refine wp_cond_true rfl (wp_seq_k fun _ κ10 => ?_)
  refine wl_region (wl_fare kn ?_)
  simp (disch := omega) only [fx, pv, kx]
  refine wl_nil (κ10 _ _ ?_)
  refine wp_ret ?_
  go_ret
  exact ⟨rfl, hM.below⟩
set_option maxHeartbeats 4000000 in
theorem walk_3 (s : Ky) (P : Pl) (z v : Int) (x : ByteArray) (w : World) (hT : Tabs w) (hP : POk P) (h1 : ¬ 16 < P.ct) (h2 : 300 < ((x.size : Nat) : Int)) : Calls Tryz.prog 5 #[.agg (kc s).toArray, .agg (plc P).toArray, .int .u16 z, .int .u16 v, .string x] w fun e w' => e = .returned (.bool true) ∧ Below w.heap.size w w' := by
  have hM := Ms.refl w
  go_enter Tryz.func5, Tryz.ntmps5
  refine wp_seq_k fun _ κ1 => wl_region (wl_give rfl (g_box 23 _ (kc (s)) rfl ?_))
  intro w2 t_ b_
  replace hM := hM.new t_ b_
  clear t_ b_
  try simp only [nz]
  refine wl_give rfl (g_box 25 _ (plc (P)) rfl fun w3 t_ b_ => ?_)
  replace hM := hM.new t_ b_
  clear t_ b_
  refine wl_fare kn ?_
  simp (disch := omega) only [fx, pv, kx]
  refine wl_nil (κ1 _ _ ?_)
  refine wp_seq_k fun _ κ4 => wp_seq_k fun _ κ5 => wl_region (wl_give rfl (g_cM hM (kf10 _ _) (awake_any w3 (hM.tabs hT)) rfl ?_))
  intro w6 hM
  refine wl_fare kn ?_
  simp (disch := omega) only [fx, pv, kx]
  refine wl_nil (κ5 _ _ ?_)
  refine wp_cond_false rfl (wp_skip ?_)
  refine κ4 _ _ (wp_seq_k fun _ κ7 => ?_)
  refine wp_seq_k fun _ κ8 => wl_region (wl_give rfl (g_load_all 25 _ (w2.heap.size) (plc (P)) 25 _ rfl (hM.get 0 rfl) Tryz.underlying25 rfl (szPl _) ?_))
  try simp only [nz]
  refine wl_give rfl (g_cM hM (kf11 _ _) (may_yes P w6 hP) rfl fun w9 hM => wl_fare kn ?_)
  simp (config := { maxSteps := 10000000 }) (disch := omega) only [fx, pv, kx, (hM.get 0 rfl).cell 3 (.int .i64 ((P).ct)) rfl]
  refine wl_give rfl (g_lenT _ (x) ((((x).size : Nat) : Int)) rfl (rfl) ?_)
  refine wl_fare kn ?_
  simp (config := { maxSteps := 10000000 }) (disch := omega) only [fx, pv, kx]
  refine wl_nil (κ8 _ _ ?_)
  refine wp_cond_true rfl (wp_seq_k fun _ κ10 => ?_)
  refine wl_region (wl_fare kn ?_)
  simp (disch := omega) only [fx, pv, kx]
  refine wl_nil (κ10 _ _ ?_)
  refine wp_ret ?_
  go_ret
  exact ⟨rfl, hM.below⟩
set_option maxHeartbeats 4000000 in
theorem walk_4 (s : Ky) (P : Pl) (z v : Int) (x : ByteArray) (w : World) (hT : Tabs w) (hP : POk P) (h1 : ¬ 16 < P.ct) (h2 : ¬ 300 < ((x.size : Nat) : Int)) (r0 i : Nat) (wz : Shut (IntKind.i64.wrap z = z)) (wv : Shut (IntKind.i64.wrap v = v)) (eR : Shut (z.tmod P.ct = ((r0 : Nat) : Int))) (eI : Shut (IntKind.i64.wrap (((r0 : Nat) : Int) + 1) = ((i : Nat) : Int))) (X Y Z : Int) (hX : Shut (pbg P ((i : Nat) : Int) = (X, 0))) (bX : -9223372036854775808 ≤ X ∧ X ≤ 9223372036854775807) (hY : Shut (pto P ((i : Nat) : Int) = (Y, 0))) (eZ : Shut (IntKind.i64.wrap (Y + v) = Z)) (K0 : Ky) (hK0 : Shut (kyk s P 0 = K0)) (G : ByteArray) (T : Int) (K : Ky) (hS : Shut (sdA s P 0 X x = ((⟨((i : Nat) : Int), x, G, T, K⟩, 0), ((i : Nat) : Int)))) (o0 : RcOk ⟨P, K0, 0, 64, 4, 4, 0, [], [], 0⟩ ∧ Sml 1000 ⟨P, K0, 0, 64, 4, 4, 0, [], [], 0⟩) (S1 : Rc) (hg : got ⟨P, K0, 0, 64, 4, 4, 0, [], [], 0⟩ ⟨((i : Nat) : Int), x, G, T, K⟩ Z = (([], 14), S1)) (v1 : ((S1.L.length : Nat) : Int) = 0) (v2 : (((ofI ((i : Nat) : Int) S1.B).length : Nat) : Int) = 0) (v3 : S1.n = T) : Calls Tryz.prog 5 #[.agg (kc s).toArray, .agg (plc P).toArray, .int .u16 z, .int .u16 v, .string x] w fun e w' => e = .returned (.bool true) ∧ Below w.heap.size w w' := by
  have hM := Ms.refl w
  go_enter Tryz.func5, Tryz.ntmps5
  refine wp_seq_k fun _ κ1 => wl_region (wl_give rfl (g_box 23 _ (kc (s)) rfl ?_))
  intro w2 t_ b_
  replace hM := hM.new t_ b_
  clear t_ b_
  try simp only [nz]
  refine wl_give rfl (g_box 25 _ (plc (P)) rfl fun w3 t_ b_ => ?_)
  replace hM := hM.new t_ b_
  clear t_ b_
  refine wl_fare kn ?_
  simp (disch := omega) only [fx, pv, kx]
  refine wl_nil (κ1 _ _ ?_)
  refine wp_seq_k fun _ κ4 => wp_seq_k fun _ κ5 => wl_region (wl_give rfl (g_cM hM (kf10 _ _) (awake_any w3 (hM.tabs hT)) rfl ?_))
  intro w6 hM
  refine wl_fare kn ?_
  simp (disch := omega) only [fx, pv, kx]
  refine wl_nil (κ5 _ _ ?_)
  refine wp_cond_false rfl (wp_skip ?_)
  refine κ4 _ _ (wp_seq_k fun _ κ7 => ?_)
  refine wp_seq_k fun _ κ8 => wl_region (wl_give rfl (g_load_all 25 _ (w2.heap.size) (plc (P)) 25 _ rfl (hM.get 0 rfl) Tryz.underlying25 rfl (szPl _) ?_))
  try simp only [nz]
  refine wl_give rfl (g_cM hM (kf11 _ _) (may_yes P w6 hP) rfl fun w9 hM => wl_fare kn ?_)
  simp (config := { maxSteps := 10000000 }) (disch := omega) only [fx, pv, kx, (hM.get 0 rfl).cell 3 (.int .i64 ((P).ct)) rfl]
  refine wl_give rfl (g_lenT _ (x) ((((x).size : Nat) : Int)) rfl (rfl) ?_)
  refine wl_fare kn ?_
  simp (config := { maxSteps := 10000000 }) (disch := omega) only [fx, pv, kx]
  refine wl_nil (κ8 _ _ ?_)
  refine wp_cond_false rfl (wp_skip ?_)
  refine κ7 _ _ (wp_seq_k fun _ κ10 => ?_)
  refine wl_region (wl_give rfl (g_load_all 23 _ (w.heap.size) (kc (s)) 23 _ rfl (hM.get 1 rfl) Tryz.underlying23 rfl (szK _) ?_))
  try simp only [nz]
  refine wl_give rfl (g_load_all 25 _ (w2.heap.size) (plc (P)) 25 _ rfl (hM.get 0 rfl) Tryz.underlying25 rfl (szPl _) ?_)
  try simp only [nz]
  refine wl_give rfl (g_call 25 _ _ [.agg (kc (s)).toArray, .agg (plc (P)).toArray] (kf25 _ _) rfl ((snew_any (s) (P) w w9 _ hM hT hP).mono ?_))
  rintro e w11 ⟨q12, rfl, h_⟩
  refine ⟨_, rfl, ?_⟩
  replace hM : Ms w w11 [sn q12 (s) (P) (0), blk (w2.heap.size) (plc (P)) 25, blk (w.heap.size) (kc (s)) 23] := h_
  clear h_
  refine wl_fare kn ?_
  simp (config := { maxSteps := 10000000 }) (disch := omega) only [fx, pv, kx]
  refine wl_nil (κ10 _ _ ?_)
  refine wp_seq_k fun _ κ13 => wp_seq_k fun _ κ14 => wl_region (wl_fare kn ?_)
  simp (disch := omega) only [fx, pv, kx]
  refine wl_give rfl (g_peqS _ ((some ⟨q12, 0, none⟩)) false rfl rfl ?_)
  try simp only [nz]
  refine wl_nil (κ14 _ _ ?_)
  refine wp_cond_false rfl (wp_skip ?_)
  refine κ13 _ _ (wp_seq_k fun _ κ15 => ?_)
  refine wp_region_steps (by kernel_rfl) (by kernel_rfl) [3] [0, 0, 0, 0, 1, 1, 1, 1, 1] [1, 0, 0, 1, 1, 1, 1, 1, 1] (by kernel_rfl) (Pm := Nat) (fun π => [.pointer (some ⟨q12, 0, none⟩), .agg (kc (K0)).toArray, .agg (plc (P)).toArray, .tuple #[.pointer (some ⟨π, 0, none⟩), .int .i64 (0)], .tuple #[.pointer (some ⟨π, 0, none⟩), .int .i64 (0)], .pointer (some ⟨π, 0, none⟩), .int .i64 (0), .pointer (some ⟨π, 0, none⟩), .int .i64 (0)]) (fun _ => by rfl) (fun j_ π wx => match j_ with | 0 => Ms w wx [sn q12 (s) (P) (0), blk (w2.heap.size) (plc (P)) 25, blk (w.heap.size) (kc (s)) 23] | _ => Ms w wx [rv π (⟨P, K0, 0, 64, 4, 4, 0, [], [], 0⟩), sn q12 (s) (P) (0), blk (w2.heap.size) (plc (P)) 25, blk (w.heap.size) (kc (s)) 23]) (0) hM.drew ?_ ?_ ?_
  · intro j_ k_ o_ hj_ ho_ π wx hM
    rcases j_ with _ | j_
    · obtain rfl := Option.some.inj hj_
      cases so ho_
      simp only [fullL, Act.put, st_a, st_s, st_0]
      change Ms _ _ _ at hM
      exact gw rfl (g_call 12 _ _ [.agg (kc (K0)).toArray, .agg (plc (P)).toArray, .int .i64 (64), .int .i64 (4), .int .i64 (4)] (kf12 _ _) rfl ((rcnew_any K0 P 64 4 4 hM hP (by decide) (by decide) (by decide)).mono (fun e w' ⟨g_0, h1_, h2_⟩ => ⟨_, h1_, ⟨(g_0), rfl, fun i h1 h2 => by rcases i with _ | _ | _ | _ | _ | _ | _ | _ | _ | i <;> first | rfl | trivial | exact absurd rfl h2 | exact absurd h1 (by decide), h2_⟩⟩)))
    · simp at hj_
  · intro i_ o_ ho_ hi_ j_ hd_ hh_ hj_ π wx hM
    simp only [fullL, Act.put, st_a, st_s, st_0]
    rcases i_ with _ | _ | _ | _ | _ | _ | _ | _ | _ | i_
    · cases so ho_
      exact gw rfl (g_move _ _ rfl ⟨rfl, hM⟩)
    · cases so ho_
      rcases j_ with _ | _ | j_
      · change Ms _ _ _ at hM
        exact gw rfl (g_call 26 _ _ [.pointer (some ⟨q12, 0, none⟩)] (kf26 _ _) rfl ((known_v hM (K0) hK0).mono (fun _ _ ⟨h1_, h2_⟩ => ⟨_, h1_, rfl, hM.call h2_⟩)))
      · exact absurd hh_ (by decide)
      · exact absurd hj_ (by simp)
    · cases so ho_
      rcases j_ with _ | _ | j_
      · change Ms _ _ _ at hM
        exact gw rfl (g_load_all 25 _ (w2.heap.size) (plc (P)) 25 _ rfl (hM.get 1 rfl) Tryz.underlying25 rfl (szPl _) ⟨rfl, hM⟩)
      · exact absurd hh_ (by decide)
      · exact absurd hj_ (by simp)
    · exact absurd (by decide) hi_
    · cases so ho_
      exact gw rfl (g_move _ _ rfl ⟨rfl, hM⟩)
    · cases so ho_
      exact gw rfl (g_extract _ _ _ _ rfl rfl ⟨rfl, hM⟩)
    · cases so ho_
      exact gw rfl (g_extract _ _ _ _ rfl rfl ⟨rfl, hM⟩)
    · cases so ho_
      exact gw rfl (g_assign _ _ rfl ⟨rfl, hM⟩)
    · cases so ho_
      exact gw rfl (g_assign _ _ rfl ⟨rfl, hM⟩)
    · simp at ho_
  · simp only [fullL, Act.put, st_a, st_s, st_0]
    rintro p17 w16 hM
    replace hM : Ms w w16 [rv p17 (⟨P, K0, 0, 64, 4, 4, 0, [], [], 0⟩), sn q12 (s) (P) (0), blk (w2.heap.size) (plc (P)) 25, blk (w.heap.size) (kc (s)) 23] := hM
    refine κ15 _ _ (wp_seq_k fun _ κ18 => ?_)
    refine wp_seq_k fun _ κ19 => wl_region (wl_fare kn ?_)
    simp (disch := omega) only [fx, pv, kx]
    refine wl_give rfl (g_peqC _ ((some ⟨p17, 0, none⟩)) false rfl rfl ?_)
    try simp only [nz]
    refine wl_nil (κ19 _ _ ?_)
    refine wp_cond_false rfl (wp_skip ?_)
    refine κ18 _ _ (wp_seq_k fun _ κ20 => ?_)
    refine wl_region (wl_fare kn ?_)
    simp (disch := omega) only [fx, pv, kx]
    refine wl_give rfl (g_cv_77_3 _ (z) (z) rfl (wz.out) ?_)
    refine wl_fare kn ?_
    simp (config := { maxSteps := 10000000 }) (disch := omega) only [fx, pv, kx, (hM.get 2 rfl).cell 3 (.int .i64 ((P).ct)) rfl]
    refine wl_give rfl (g_irem 3 _ _ .i64 (z) (P.ct) (((r0 : Nat) : Int)) rfl rfl (by omega) eR.out ?_)
    refine wl_fare kn ?_
    simp (config := { maxSteps := 10000000 }) (disch := omega) only [fx, pv, kx, (eI.out : IntKind.i64.wrap ((((r0 : Nat) : Int)) + (1)) = ((i : Nat) : Int))]
    refine wl_nil (κ20 _ _ ?_)
    refine wp_seq_k fun _ κ21 => wl_region (wl_give rfl (g_load_all 25 _ (w2.heap.size) (plc (P)) 25 _ rfl (hM.get 2 rfl) Tryz.underlying25 rfl (szPl _) ?_))
    refine wl_fare kn ?_
    simp (disch := omega) only [fx, pv, kx]
    refine wl_give rfl (g_cM hM (kf28 _ _) (pbegins_any P ((i : Nat) : Int) w16 X 0 hX) rfl fun w22 hM => wl_fare kn ?_)
    simp (config := { maxSteps := 10000000 }) (disch := omega) only [fx, pv, kx]
    refine wl_nil (κ21 _ _ ?_)
    refine wp_seq_k fun _ κ23 => wl_region (wl_fare kn ?_)
    simp (config := { maxSteps := 10000000 }) (disch := omega) only [fx, pv, kx]
    refine wl_give rfl (g_call 27 _ _ [.pointer (some ⟨q12, 0, none⟩), .int .i64 (X), .string (x)] (kf27 _ _) rfl ((send_any (show Ms w w22 [sn q12 (s) (P) (0), rv p17 (⟨P, K0, 0, 64, 4, 4, 0, [], [], 0⟩), blk (w2.heap.size) (plc (P)) 25, blk (w.heap.size) (kc (s)) 23] from (hM.up 1 rfl)) hT (X) bX (x) (((i : Nat) : Int)) (x) (G) (T) (K) (0) (((i : Nat) : Int)) hS).mono ?_))
    rintro e w24 ⟨rfl, h_⟩
    refine ⟨_, rfl, ?_⟩
    replace hM : Ms w w24 [sn q12 (s) (P) (((i : Nat) : Int)), rv p17 (⟨P, K0, 0, 64, 4, 4, 0, [], [], 0⟩), blk (w2.heap.size) (plc (P)) 25, blk (w.heap.size) (kc (s)) 23] := h_
    clear h_
    refine wl_fare kn ?_
    simp (config := { maxSteps := 10000000 }) (disch := omega) only [fx, pv, kx]
    refine wl_give rfl (g_alloc 39 (pkc (0) (⟨#[]⟩) (⟨#[]⟩) (0) (zk)) zeroPk fun w25 t_ b_ => ?_)
    replace hM := hM.new t_ b_
    clear t_ b_
    try simp only [nz]
    refine wl_give rfl (g_store_all 39 _ _ (w24.heap.size) (pkc (((i : Nat) : Int)) (x) (G) (T) (K)) _ 39 rfl rfl (hM.get 0 rfl) (szPk _ _ _ _ _) (kk2_len _ _ _ _ _ _ _ _ _ _) (one_pkc _ _ _ _ _) fun w26 t_ b_ => ?_)
    replace hM : Ms w w26 [blk (w24.heap.size) (pkc (((i : Nat) : Int)) (x) (G) (T) (K)) 39, sn q12 (s) (P) (((i : Nat) : Int)), rv p17 (⟨P, K0, 0, 64, 4, 4, 0, [], [], 0⟩), blk (w2.heap.size) (plc (P)) 25, blk (w.heap.size) (kc (s)) 23] := hM.put 0 rfl t_ b_
    clear t_ b_
    refine wl_fare kn ?_
    simp (disch := omega) only [fx, pv, kx]
    refine wl_nil (κ23 _ _ ?_)
    refine wp_seq_k fun _ κ27 => wl_region (wl_give rfl (g_load_all 25 _ (w2.heap.size) (plc (P)) 25 _ rfl (hM.get 3 rfl) Tryz.underlying25 rfl (szPl _) ?_))
    refine wl_fare kn ?_
    simp (disch := omega) only [fx, pv, kx]
    refine wl_give rfl (g_cM hM (kf30 _ _) (ptold_any P ((i : Nat) : Int) w26 Y 0 hY) rfl fun w28 hM => wl_fare kn ?_)
    simp (config := { maxSteps := 10000000 }) (disch := omega) only [fx, pv, kx]
    refine wl_nil (κ27 _ _ ?_)
    refine wp_seq_k fun _ κ29 => wl_region (wl_fare kn ?_)
    simp (disch := omega) only [fx, pv, kx]
    refine wl_give rfl (g_load_all 39 _ (w24.heap.size) (pkc (((i : Nat) : Int)) (x) (G) (T) (K)) 39 _ rfl (hM.get 0 rfl) Tryz.underlying39 rfl (szPk _ _ _ _ _) ?_)
    refine wl_fare kn ?_
    simp (config := { maxSteps := 10000000 }) (disch := omega) only [fx, pv, kx]
    refine wl_give rfl (g_cv_77_2 _ (v) (v) rfl (wv.out) ?_)
    refine wl_fare kn ?_
    simp (disch := omega) only [fx, pv, kx, (eZ.out : IntKind.i64.wrap ((Y) + (v)) = Z)]
    refine wl_give rfl (g_call 15 _ _ [.pointer (some ⟨p17, 0, none⟩), .agg (pkc (((i : Nat) : Int)) (x) (G) (T) (K)).toArray, .int .i64 (Z)] (kf15 _ _) rfl ((got_n (show Ms w w28 [rv p17 (⟨P, K0, 0, 64, 4, 4, 0, [], [], 0⟩), blk (w24.heap.size) (pkc (((i : Nat) : Int)) (x) (G) (T) (K)) 39, sn q12 (s) (P) (((i : Nat) : Int)), blk (w2.heap.size) (plc (P)) 25, blk (w.heap.size) (kc (s)) 23] from (hM.up 2 rfl)) hT o0 ⟨((i : Nat) : Int), x, G, T, K⟩ Z 14 S1 hg).mono ?_))
    rintro e w30 ⟨o31, k32, rfl, h_⟩
    refine ⟨_, rfl, ?_⟩
    replace hM : Ms w w30 [rv p17 (S1), blk (w24.heap.size) (pkc (((i : Nat) : Int)) (x) (G) (T) (K)) 39, sn q12 (s) (P) (((i : Nat) : Int)), blk (w2.heap.size) (plc (P)) 25, blk (w.heap.size) (kc (s)) 23] := h_
    clear h_
    refine wl_fare kn ?_
    simp (config := { maxSteps := 10000000 }) (disch := omega) only [fx, pv, kx]
    refine wl_nil (κ29 _ _ ?_)
    refine wp_seq_k fun _ κ33 => ?_
    (try simp only [List.append_eq, List.cons_append, List.nil_append])
    refine wp_region_fixed (by kernel_rfl) (by kernel_rfl) [.int .i64 (0), .bool true, .bool true, .int .i64 (0), .bool true, .bool true, .bool true, .int .i64 (14), .bool true, .bool true, .bool true, .slice o31 (0) (k32), .int .i64 (0), .bool true, .bool true, .bool true, .pointer (some ⟨p17, 0, none⟩), .int .i64 (0), .bool true, .bool true, .bool true, .pointer (some ⟨p17, 0, none⟩), .int .i64 (((i : Nat) : Int)), .int .i64 (0), .bool true, .bool true, .bool true, .pointer (some ⟨p17, 0, none⟩), .int .i64 (T), .pointer (some ⟨w24.heap.size, 3, none⟩), .int .i64 (T), .bool true, .bool true, .bool true] (by rfl) (fun wx => Ms w wx [rv p17 (S1), blk (w24.heap.size) (pkc (((i : Nat) : Int)) (x) (G) (T) (K)) 39, sn q12 (s) (P) (((i : Nat) : Int)), blk (w2.heap.size) (plc (P)) 25, blk (w.heap.size) (kc (s)) 23]) hM.drew (by simp only [fullL, Act.put, st_a, st_s, st_0]; exact ⟨mvL rfl rfl, fun _ hM => gw rfl (g_ieq 31 _ _ .i64 (0) (0) true rfl rfl (by decide) ⟨rfl, hM⟩), mvL rfl rfl, mvL rfl rfl, fun _ hM => gw rfl (g_ieq 31 _ _ .i64 (0) (0) true rfl rfl (by decide) ⟨rfl, hM⟩), ptL rfl rfl rfl, mvL rfl rfl, mvL rfl rfl, fun _ hM => gw rfl (g_ieq 31 _ _ .i64 (14) (14) true rfl rfl (by decide) ⟨rfl, hM⟩), ptL rfl rfl rfl, mvL rfl rfl, mvL rfl rfl, fun _ hM => gw rfl (g_len _ 43 73 (o31) (0) (k32) (0) Tryz.underlying43 rfl (rfl) ⟨rfl, hM⟩), fun _ hM => gw rfl (g_ieq 3 _ _ .i64 (0) (0) true rfl rfl (by decide) ⟨rfl, hM⟩), ptL rfl rfl rfl, mvL rfl rfl, mvL rfl rfl, fun _ hM => gw rfl (g_call 22 _ _ [.pointer (some ⟨p17, 0, none⟩)] (kf22 _ _) rfl ((keep1 0 rfl (fun R_ h_ => waits_e h_ 0 v1 (by omega)) hM).mono (fun _ _ ⟨h1_, h2_⟩ => ⟨_, h1_, rfl, h2_⟩))), fun _ hM => gw rfl (g_ieq 3 _ _ .i64 (0) (0) true rfl rfl (by decide) ⟨rfl, hM⟩), ptL rfl rfl rfl, mvL rfl rfl, mvL rfl rfl, mvL rfl rfl, fun _ hM => gw rfl (g_call 23 _ _ [.pointer (some ⟨p17, 0, none⟩), .int .i64 (((i : Nat) : Int))] (kf23 _ _) rfl ((keep1 0 rfl (fun R_ h_ => believed_e h_ ((i : Nat) : Int) 0 v2) hM).mono (fun _ _ ⟨h1_, h2_⟩ => ⟨_, h1_, rfl, h2_⟩))), fun _ hM => gw rfl (g_ieq 3 _ _ .i64 (0) (0) true rfl rfl (by decide) ⟨rfl, hM⟩), ptL rfl rfl rfl, mvL rfl rfl, mvL rfl rfl, fun _ hM => gw rfl (g_call 21 _ _ [.pointer (some ⟨p17, 0, none⟩)] (kf21 _ _) rfl ((keep1 0 rfl (fun R_ h_ => at_e h_ T v3) hM).mono (fun _ _ ⟨h1_, h2_⟩ => ⟨_, h1_, rfl, h2_⟩))), faL rfl rfl (fun _ => faPk3 _ _ _), fun _ hM => gw rfl (g_ld1 3 _ (w24.heap.size) (3) _ rfl (ld3 _ _ _ _ ((hM.get 1 rfl).cell (3) _ (rfl))) ⟨rfl, hM⟩), fun _ hM => gw rfl (g_ieq 3 _ _ .i64 (T) (T) true rfl rfl (decide_eq_true rfl) ⟨rfl, hM⟩), ptL rfl rfl rfl, asL rfl rfl, trivial⟩) ?_
    simp only [fullL, Act.put, st_a, st_s, st_0]
    intro w34 hM
    refine κ33 _ _ (wp_ret ?_)
    go_ret
    exact ⟨rfl, hM.below⟩
theorem late_got {s : Ky} {P : Pl} (hP : POk P) (h16 : P.ct ≤ 16) {i : Int} (h1 : 1 ≤ i) (h2 : i ≤ P.ct) {x : ByteArray} (hx : x.size ≤ 1000) {la : Int} (hla : psf P i la = false) : ∃ S1, got ⟨P, kyk s P 0, 0, 64, 4, 4, 0, [], [], 0⟩ (own s P i x) la = (([], 14), S1) ∧ S1.L = [] ∧ S1.B = [] ∧ S1.n = pte P i := by
  have hl := own_lnp (s := s) hP (S := ⟨P, kyk s P 0, 0, 64, 4, 4, 0, [], [], 0⟩) rfl rfl (Int.le_refl _) (by show (0 : Int) ≤ P.ct; omega) (by show P.ct ≤ 64; omega) h1 h2 x
  have ht := pte_le hP h1 h2
  by_cases h : 0 < pte P i
  · rw [if_pos h, blv_nil rfl] at hl
    exact ⟨_, got_ok (own_form h1 h2 hx) hl (wtg_late hla), rfl, rfl, rfl⟩
  · rw [if_neg h] at hl
    exact ⟨_, got_ok (own_form h1 h2 hx) hl (wtg_late hla), rfl, rfl, by show 0 = pte P i; omega⟩
theorem walk (l0 : List UInt8) (h0 : l0.length = 32) (P : Pl) (z v : Int) (x : ByteArray) (w : World) (hT : Tabs w) (hp : PIn P) (hz : 0 ≤ z ∧ z < 65536) (hv : 0 ≤ v ∧ v < 65536) : Calls Tryz.prog 5 #[.agg (bc l0).toArray, .agg (plc P).toArray, .int .u16 z, .int .u16 v, .string x] w fun e w' => e = .returned (.bool true) ∧ Below w.heap.size w w' := by
  by_cases hP : POk P
  · by_cases h1 : 16 < P.ct
    · exact walk_2 ⟨l0, h0⟩ P z v x w hT hP h1
    · by_cases h2 : 300 < ((x.size : Nat) : Int)
      · exact walk_3 ⟨l0, h0⟩ P z v x w hT hP h1 h2
      · obtain ⟨ct, hct⟩ : ∃ ct : Nat, P.ct = (ct : Int) := ⟨P.ct.toNat, by omega⟩
        obtain ⟨r0, eR, hr0⟩ := rem_nat z ct (by omega) hz.1
        obtain ⟨i, hi⟩ : ∃ i : Nat, r0 + 1 = i := ⟨_, rfl⟩
        have hi1 : 1 ≤ i := by omega
        have hi2 : (i : Int) ≤ P.ct := by omega
        have hX : pbg P (i : Int) = (bgn P i, 0) := by unfold pbg; rw [if_pos ⟨hP, by omega, by omega⟩]
        have hY : pto P (i : Int) = (bgn P ((i : Int) + P.dl), 0) := by unfold pto; rw [if_pos ⟨hP, by omega, by omega⟩]
        have b := bgn_bd hP (i := (i : Int)) (by omega) (by omega)
        have b2 := bgn_bd hP (i := (i : Int) + P.dl) (by omega) (by omega)
        have px : pat P (bgn P i) = ((i : Int), 0) := pat_in hP (by omega) hi2 (Int.le_refl _) (by rw [bgn_succ]; omega)
        have hla : psf P (i : Int) (bgn P ((i : Int) + P.dl) + v) = false := by unfold psf; exact decide_eq_false (fun h => absurd h.2 (by omega))
        obtain ⟨S1, g1, g2, g3, g4⟩ := late_got (s := ⟨l0, h0⟩) hP (by omega) (by omega : 1 ≤ (i : Int)) hi2 (x := x) (by omega) hla
        refine walk_4 ⟨l0, h0⟩ P z v x w hT hP h1 h2 r0 i ⟨wrap_id _ (by omega) (by omega)⟩ ⟨wrap_id _ (by omega) (by omega)⟩ ⟨by rw [hct]; exact eR⟩ ⟨by rw [wrap_id _ (by omega) (by omega)]; omega⟩ (bgn P i) (bgn P ((i : Int) + P.dl)) _ ⟨hX⟩ (by omega) ⟨hY⟩ ⟨wrap_id _ (by omega) (by omega)⟩ _ ⟨rfl⟩ _ _ _ ⟨sdA_ok ⟨l0, h0⟩ P 0 (bgn P i) i _ x px (by omega) (by omega) rfl⟩ ?_ S1 g1 (by rw [g2]; rfl) (by rw [g3]; rfl) g4
        exact ⟨⟨hP, Int.le_refl _, by show (0 : Int) ≤ P.ct; omega, (by decide : (1 : Int) ≤ 64 ∧ (64 : Int) ≤ 64), (by decide : 1 ≤ 4 ∧ 4 ≤ 64), (by decide : (1 : Int) ≤ 4 ∧ (4 : Int) ≤ 64), fun u hu => by cases hu⟩, ⟨(by decide : 0 + 0 ≤ 1000), (by decide : (0 : Int) ≤ 0), (by decide : (0 : Int) + ((0 : Nat) : Int) ≤ 1000), (by decide : (0 : Int) ≤ 0 ∧ (0 : Int) ≤ 1000)⟩⟩
  · exact walk_1 ⟨l0, h0⟩ P z v x w hT hP
end Go.Proofs.YtcclcemdodoiiaaGreatDoor.receiverLate
