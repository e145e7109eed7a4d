/- VolleyBound: the walk. -/
import Derived.Test.YtpenicjlpiechaaDoorVoLw
import Derived.Test.YtpenicjlpiechaaDoorWdC
import Derived.WalkKit
import Derived.WalkSpells
import Derived.WalkLawsBesides
namespace Go.Proofs.YtpenicjlpiechaaDoor.volleyBound
set_option maxRecDepth 10000
open Go Go.RowKit
set_option linter.unusedVariables false
set_option linter.unusedSimpArgs false

set_option maxHeartbeats 8000000 in
theorem walk_neg0 (a s x y z u r : Int) (w : World) (hT : Tabs w) (P X Y Z S R0 T2 T3 T4 R W N : Int) (e1 : Shut (a.tmod 1152921504606846976 = P)) (e2 : Shut (x.tmod 1099511627776 = X)) (e3 : Shut (y.tmod 1099511627776 = Y)) (e4 : Shut (z.tmod 1099511627776 = Z)) (e5 : Shut (s.tmod 1152921504606846976 = S)) (e6 : Shut (r.tmod 100000001 = R0)) (c2 : Shut (IntKind.i64.wrap X = X)) (c3 : Shut (IntKind.i64.wrap Y = Y)) (c4 : Shut (IntKind.i64.wrap Z = Z)) (s1 : Shut (IntKind.i64.wrap (P + X) = T2)) (s2 : Shut (IntKind.i64.wrap (T2 + Y) = T3)) (s3 : Shut (IntKind.i64.wrap (T3 + Z) = T4)) (iP : Shut (Wd.In64 P)) (i2 : Shut (Wd.In64 T2)) (i3 : Shut (Wd.In64 T3)) (i4 : Shut (Wd.In64 T4)) (iS : Shut (Wd.In64 S)) (iW : Shut (Wd.In64 W)) (iN : Shut (Wd.In64 N)) (oW : Shut (Wd.Ok W)) (h1 : Shut (Wd.rd P S W P = (S, 0))) (h2 : Shut (Wd.rd P S W T4 = (N, 0))) (n0 : R0 < 0) (n1 : Shut (IntKind.i64.wrap (-R0) = R)) (n2 : 0 < R) (Q : Int) (n3 : Shut (IntKind.i64.wrap (R + 1) = Q)) (n4 : Shut (u.tmod Q = W)) (n5 : Q ≠ 0) (O D B K G J : Int) (k1 : Shut (IntKind.i64.wrap (T4 - N) = K)) (k2 : Shut (IntKind.i64.wrap (K - O) = G)) (k3 : Shut (IntKind.i64.wrap (-G) = J)) (k4 : G ≤ B) (k5 : J ≤ B) (h3 : Shut (vrd S T2 T3 N R = ((O, D, B), 0))) : Calls Tryd.prog 4 #[.int .i64 a, .int .i64 s, .int .u64 x, .int .u64 y, .int .u64 z, .int .i64 u, .int .i64 r] w fun e w' => e = .returned (.bool true) ∧ Below w.heap.size w w' := by
  have hM := Ms.refl w
  go_enter Tryd.func4, Tryd.ntmps4
  refine wp_seq_k fun _ κ1 => wl_region (wl_fare kn ?_)
  simp (disch := omega) only [fx, pv, kx]
  refine wl_nil (κ1 _ _ ?_)
  refine wp_seq_k fun _ κ2 => wp_seq_k fun _ κ3 => wl_region (wl_give rfl (g_cM hM (kf10 _ _) (awake_any w (hM.tabs hT)) rfl ?_))
  intro w4 hM
  refine wl_fare kn ?_
  simp (disch := omega) only [fx, pv, kx]
  refine wl_nil (κ3 _ _ ?_)
  refine wp_cond_false rfl (wp_skip ?_)
  refine κ2 _ _ (wp_seq_k fun _ κ5 => ?_)
  refine wl_region (wl_fare kn ?_)
  simp (disch := omega) only [fx, pv, kx]
  refine wl_give rfl (g_irem 2 _ _ .i64 (r) (100000001) (R0) rfl rfl (by decide) e6.out ?_)
  refine wl_fare kn ?_
  simp (disch := omega) only [fx, pv, kx]
  refine wl_nil (κ5 _ _ ?_)
  refine wp_seq_k fun _ κ6 => wp_seq_k fun _ κ7 => wl_region (wl_fare kn ?_)
  simp (config := { maxSteps := 10000000 }) (disch := omega) only [fx, pv, kx]
  refine wl_nil (κ7 _ _ ?_)
  refine wp_cond_true rfl (wl_region (wl_fare kn ?_))
  simp (disch := omega) only [fx, pv, kx]
  refine wl_give rfl (g_ineg 2 _ (R0) (R) rfl n1.out ?_)
  refine wl_fare kn ?_
  simp (disch := omega) only [fx, pv, kx]
  refine wl_nil (κ6 _ _ ?_)
  refine wp_seq_k fun _ κ8 => wl_region (wl_fare kn ?_)
  simp (disch := omega) only [fx, pv, kx]
  refine wl_nil (κ8 _ _ ?_)
  refine wp_seq_k fun _ κ9 => wp_seq_k fun _ κ10 => wl_region (wl_fare kn ?_)
  simp (config := { maxSteps := 10000000 }) (disch := omega) only [fx, pv, kx]
  refine wl_nil (κ10 _ _ ?_)
  refine wp_cond_true rfl (wl_region (wl_fare kn ?_))
  simp (config := { maxSteps := 10000000 }) (disch := omega) only [fx, pv, kx, (n3.out : IntKind.i64.wrap ((R) + (1)) = Q)]
  refine wl_give rfl (g_irem 2 _ _ .i64 (u) (Q) (W) rfl rfl n5 n4.out ?_)
  refine wl_fare kn ?_
  simp (disch := omega) only [fx, pv, kx]
  refine wl_nil (κ9 _ _ ?_)
  refine wp_seq_k fun _ κ11 => wl_region (wl_fare kn ?_)
  simp (disch := omega) only [fx, pv, kx]
  refine wl_nil (κ11 _ _ ?_)
  refine wp_seq_k fun _ κ12 => wl_region (wl_fare kn ?_)
  simp (disch := omega) only [fx, pv, kx]
  refine wl_give rfl (g_irem 2 _ _ .i64 (a) (1152921504606846976) (P) rfl rfl (by decide) e1.out ?_)
  refine wl_fare kn ?_
  simp (disch := omega) only [fx, pv, kx]
  refine wl_nil (κ12 _ _ ?_)
  refine wp_seq_k fun _ κ13 => wl_region (wl_fare kn ?_)
  simp (config := { maxSteps := 10000000 }) (disch := omega) only [fx, pv, kx]
  refine wl_give rfl (g_irem 34 _ _ .u64 (x) (1099511627776) (X) rfl rfl (by decide) e2.out ?_)
  try simp only [nz]
  refine wl_give rfl (g_cvU2 _ (X) (X) rfl (c2.out) ?_)
  refine wl_fare kn ?_
  simp (config := { maxSteps := 10000000 }) (disch := omega) only [fx, pv, kx, (s1.out : IntKind.i64.wrap ((P) + (X)) = T2)]
  refine wl_nil (κ13 _ _ ?_)
  refine wp_seq_k fun _ κ14 => wl_region (wl_fare kn ?_)
  simp (config := { maxSteps := 10000000 }) (disch := omega) only [fx, pv, kx]
  refine wl_give rfl (g_irem 34 _ _ .u64 (y) (1099511627776) (Y) rfl rfl (by decide) e3.out ?_)
  try simp only [nz]
  refine wl_give rfl (g_cvU2 _ (Y) (Y) rfl (c3.out) ?_)
  refine wl_fare kn ?_
  simp (config := { maxSteps := 10000000 }) (disch := omega) only [fx, pv, kx, (s2.out : IntKind.i64.wrap ((T2) + (Y)) = T3)]
  refine wl_nil (κ14 _ _ ?_)
  refine wp_seq_k fun _ κ15 => wl_region (wl_fare kn ?_)
  simp (config := { maxSteps := 10000000 }) (disch := omega) only [fx, pv, kx]
  refine wl_give rfl (g_irem 34 _ _ .u64 (z) (1099511627776) (Z) rfl rfl (by decide) e4.out ?_)
  try simp only [nz]
  refine wl_give rfl (g_cvU2 _ (Z) (Z) rfl (c4.out) ?_)
  refine wl_fare kn ?_
  simp (config := { maxSteps := 10000000 }) (disch := omega) only [fx, pv, kx, (s3.out : IntKind.i64.wrap ((T3) + (Z)) = T4)]
  refine wl_nil (κ15 _ _ ?_)
  refine wp_seq_k fun _ κ16 => wl_region (wl_fare kn ?_)
  simp (config := { maxSteps := 10000000 }) (disch := omega) only [fx, pv, kx]
  refine wl_give rfl (g_irem 2 _ _ .i64 (s) (1152921504606846976) (S) rfl rfl (by decide) e5.out ?_)
  refine wl_fare kn ?_
  simp (disch := omega) only [fx, pv, kx]
  refine wl_give rfl (g_cM hM (kf15 _ _) (Wd.new_good P S (W) w4 oW.out) rfl fun w17 hM => wl_fare kn ?_)
  simp (config := { maxSteps := 10000000 }) (disch := omega) only [fx, pv, kx]
  refine wl_give rfl (g_alloc 36 (Wd.cl (0) (0) (0)) Wd.zeroC fun w18 t_ b_ => ?_)
  replace hM := hM.new t_ b_
  clear t_ b_
  try simp only [nz]
  refine wl_give rfl (g_store_all 36 _ _ (w17.heap.size) (Wd.cl (P) (S) (W)) _ 36 rfl rfl (hM.get 0 rfl) (Wd.szC _ _ _) (rfl) (Wd.one_cl _ _ _) fun w19 t_ b_ => ?_)
  replace hM : Ms w w19 [blk (w17.heap.size) (Wd.cl (P) (S) (W)) 36] := hM.put 0 rfl t_ b_
  clear t_ b_
  refine wl_fare kn ?_
  simp (disch := omega) only [fx, pv, kx]
  refine wl_nil (κ16 _ _ ?_)
  refine wp_seq_k fun _ κ20 => wl_region (wl_give rfl (g_load_all 36 _ (w17.heap.size) (Wd.cl (P) (S) (W)) 36 _ rfl (hM.get 0 rfl) Tryd.underlying36 rfl (Wd.szC _ _ _) ?_))
  refine wl_fare kn ?_
  simp (disch := omega) only [fx, pv, kx]
  refine wl_give rfl (g_cM hM (kf16 _ _) (Wd.read_any P S (W) (P) (S) 0 w19 iP.out iS.out iW.out iP.out h1.out) rfl fun w21 hM => wl_fare kn ?_)
  simp (config := { maxSteps := 10000000 }) (disch := omega) only [fx, pv, kx]
  refine wl_nil (κ20 _ _ ?_)
  refine wp_seq_k fun _ κ22 => wl_region (wl_give rfl (g_load_all 36 _ (w17.heap.size) (Wd.cl (P) (S) (W)) 36 _ rfl (hM.get 0 rfl) Tryd.underlying36 rfl (Wd.szC _ _ _) ?_))
  refine wl_fare kn ?_
  simp (disch := omega) only [fx, pv, kx]
  refine wl_give rfl (g_cM hM (kf16 _ _) (Wd.read_any P S (W) (T4) (N) 0 w21 iP.out iS.out iW.out i4.out h2.out) rfl fun w23 hM => wl_fare kn ?_)
  simp (config := { maxSteps := 10000000 }) (disch := omega) only [fx, pv, kx]
  refine wl_nil (κ22 _ _ ?_)
  refine wp_seq_k fun _ κ24 => wl_region (wl_fare kn ?_)
  simp (config := { maxSteps := 10000000 }) (disch := omega) only [fx, pv, kx]
  refine wl_give rfl (g_cM hM (kf11 _ _) (round_any (S) (T2) (T3) (N) (R) w23 (iS.out) (i2.out) (i3.out) (iN.out) (O) (D) (B) (0) h3) rfl fun w25 hM => wl_fare kn ?_)
  simp (config := { maxSteps := 10000000 }) (disch := omega) only [fx, pv, kx]
  refine wl_give rfl (g_alloc 23 (smc (0) (0) (0)) zeroSm fun w26 t_ b_ => ?_)
  replace hM := hM.new t_ b_
  clear t_ b_
  try simp only [nz]
  refine wl_give rfl (g_store_all 23 _ _ (w25.heap.size) (smc (O) (D) (B)) _ 23 rfl rfl (hM.get 0 rfl) (szSm _ _ _) (rfl) (one_smc _ _ _) fun w27 t_ b_ => ?_)
  replace hM : Ms w w27 [blk (w25.heap.size) (smc (O) (D) (B)) 23, blk (w17.heap.size) (Wd.cl (P) (S) (W)) 36] := hM.put 0 rfl t_ b_
  clear t_ b_
  refine wl_fare kn ?_
  simp (disch := omega) only [fx, pv, kx]
  refine wl_nil (κ24 _ _ ?_)
  refine wp_seq_k fun _ κ28 => wp_seq_k fun _ κ29 => wl_region (wl_fare kn ?_)
  simp (config := { maxSteps := 10000000 }) (disch := omega) only [fx, pv, kx]
  refine wl_nil (κ29 _ _ ?_)
  refine wp_cond_false rfl (wp_skip ?_)
  refine κ28 _ _ (wp_seq_k fun _ κ30 => ?_)
  refine wp_seq_k fun _ κ31 => wl_region (wl_fare kn ?_)
  simp (config := { maxSteps := 10000000 }) (disch := omega) only [fx, pv, kx]
  refine wl_nil (κ31 _ _ ?_)
  refine wp_cond_false rfl (wp_skip ?_)
  refine κ30 _ _ (wp_seq_k fun _ κ32 => ?_)
  refine wl_region (wl_fare kn ?_)
  simp (config := { maxSteps := 10000000 }) (disch := omega) only [fx, pv, kx, (k1.out : IntKind.i64.wrap ((T4) - (N)) = K), (hM.get 0 rfl).cell 0 (.int .i64 (O)) rfl, (k2.out : IntKind.i64.wrap ((K) - (O)) = G)]
  refine wl_nil (κ32 _ _ ?_)
  refine wp_seq_k fun _ κ33 => ?_
  refine wl_text (C := fun wx => Ms w wx [blk (w25.heap.size) (smc (O) (D) (B)) 23, blk (w17.heap.size) (Wd.cl (P) (S) (W)) 36]) (by kernel_rfl) [.int .i64 (G), .pointer (some ⟨w25.heap.size, 2, none⟩), .int .i64 (B), .bool true, .bool true, .int .i64 (G), .int .i64 (J), .pointer (some ⟨w25.heap.size, 2, none⟩), .int .i64 (B), .bool true, .bool true, .bool true] (by rfl) hM (by simp only [fullL, Act.put, st_a, st_s, st_0]; exact ⟨mvL rfl rfl, faL rfl rfl (fun _ => faSm2 _ _ _), fun _ hM => gw rfl (g_ld1 2 _ (w25.heap.size) (2) _ rfl (ld2 _ _ _ _ ((hM.get 0 rfl).cell (2) _ (rfl))) ⟨rfl, hM⟩), fun _ hM => gw rfl (g_ileq 2 _ _ .i64 (G) (B) true rfl rfl (decide_eq_true k4) ⟨rfl, hM⟩), mvL rfl rfl, mvL rfl rfl, fun _ hM => gw rfl (g_ineg 2 _ (G) (J) rfl k3.out ⟨rfl, hM⟩), faL rfl rfl (fun _ => faSm2 _ _ _), fun _ hM => gw rfl (g_ld1 2 _ (w25.heap.size) (2) _ rfl (ld2 _ _ _ _ ((hM.get 0 rfl).cell (2) _ (rfl))) ⟨rfl, hM⟩), fun _ hM => gw rfl (g_ileq 2 _ _ .i64 (J) (B) true rfl rfl (decide_eq_true k5) ⟨rfl, hM⟩), ptL rfl rfl rfl, asL rfl rfl, trivial⟩) ?_
  simp only [fullL, Act.put, st_a, st_s, st_0]
  intro w34 hM
  refine κ33 _ _ (wp_ret ?_)
  go_ret
  exact ⟨rfl, hM.below⟩
set_option maxHeartbeats 8000000 in
theorem walk_neg3 (a s x y z u r : Int) (w : World) (hT : Tabs w) (P X Y Z S R0 T2 T3 T4 R W N : Int) (e1 : Shut (a.tmod 1152921504606846976 = P)) (e2 : Shut (x.tmod 1099511627776 = X)) (e3 : Shut (y.tmod 1099511627776 = Y)) (e4 : Shut (z.tmod 1099511627776 = Z)) (e5 : Shut (s.tmod 1152921504606846976 = S)) (e6 : Shut (r.tmod 100000001 = R0)) (c2 : Shut (IntKind.i64.wrap X = X)) (c3 : Shut (IntKind.i64.wrap Y = Y)) (c4 : Shut (IntKind.i64.wrap Z = Z)) (s1 : Shut (IntKind.i64.wrap (P + X) = T2)) (s2 : Shut (IntKind.i64.wrap (T2 + Y) = T3)) (s3 : Shut (IntKind.i64.wrap (T3 + Z) = T4)) (iP : Shut (Wd.In64 P)) (i2 : Shut (Wd.In64 T2)) (i3 : Shut (Wd.In64 T3)) (i4 : Shut (Wd.In64 T4)) (iS : Shut (Wd.In64 S)) (iW : Shut (Wd.In64 W)) (iN : Shut (Wd.In64 N)) (oW : Shut (Wd.Ok W)) (h1 : Shut (Wd.rd P S W P = (S, 0))) (h2 : Shut (Wd.rd P S W T4 = (N, 0))) (n0 : R0 < 0) (n1 : Shut (IntKind.i64.wrap (-R0) = R)) (n2 : 0 < R) (Q : Int) (n3 : Shut (IntKind.i64.wrap (R + 1) = Q)) (n4 : Shut (u.tmod Q = W)) (n5 : Q ≠ 0) (h3 : Shut (vrd S T2 T3 N R = ((0, 0, 0), 3))) : Calls Tryd.prog 4 #[.int .i64 a, .int .i64 s, .int .u64 x, .int .u64 y, .int .u64 z, .int .i64 u, .int .i64 r] w fun e w' => e = .returned (.bool true) ∧ Below w.heap.size w w' := by
  have hM := Ms.refl w
  go_enter Tryd.func4, Tryd.ntmps4
  refine wp_seq_k fun _ κ1 => wl_region (wl_fare kn ?_)
  simp (disch := omega) only [fx, pv, kx]
  refine wl_nil (κ1 _ _ ?_)
  refine wp_seq_k fun _ κ2 => wp_seq_k fun _ κ3 => wl_region (wl_give rfl (g_cM hM (kf10 _ _) (awake_any w (hM.tabs hT)) rfl ?_))
  intro w4 hM
  refine wl_fare kn ?_
  simp (disch := omega) only [fx, pv, kx]
  refine wl_nil (κ3 _ _ ?_)
  refine wp_cond_false rfl (wp_skip ?_)
  refine κ2 _ _ (wp_seq_k fun _ κ5 => ?_)
  refine wl_region (wl_fare kn ?_)
  simp (disch := omega) only [fx, pv, kx]
  refine wl_give rfl (g_irem 2 _ _ .i64 (r) (100000001) (R0) rfl rfl (by decide) e6.out ?_)
  refine wl_fare kn ?_
  simp (disch := omega) only [fx, pv, kx]
  refine wl_nil (κ5 _ _ ?_)
  refine wp_seq_k fun _ κ6 => wp_seq_k fun _ κ7 => wl_region (wl_fare kn ?_)
  simp (config := { maxSteps := 10000000 }) (disch := omega) only [fx, pv, kx]
  refine wl_nil (κ7 _ _ ?_)
  refine wp_cond_true rfl (wl_region (wl_fare kn ?_))
  simp (disch := omega) only [fx, pv, kx]
  refine wl_give rfl (g_ineg 2 _ (R0) (R) rfl n1.out ?_)
  refine wl_fare kn ?_
  simp (disch := omega) only [fx, pv, kx]
  refine wl_nil (κ6 _ _ ?_)
  refine wp_seq_k fun _ κ8 => wl_region (wl_fare kn ?_)
  simp (disch := omega) only [fx, pv, kx]
  refine wl_nil (κ8 _ _ ?_)
  refine wp_seq_k fun _ κ9 => wp_seq_k fun _ κ10 => wl_region (wl_fare kn ?_)
  simp (config := { maxSteps := 10000000 }) (disch := omega) only [fx, pv, kx]
  refine wl_nil (κ10 _ _ ?_)
  refine wp_cond_true rfl (wl_region (wl_fare kn ?_))
  simp (config := { maxSteps := 10000000 }) (disch := omega) only [fx, pv, kx, (n3.out : IntKind.i64.wrap ((R) + (1)) = Q)]
  refine wl_give rfl (g_irem 2 _ _ .i64 (u) (Q) (W) rfl rfl n5 n4.out ?_)
  refine wl_fare kn ?_
  simp (disch := omega) only [fx, pv, kx]
  refine wl_nil (κ9 _ _ ?_)
  refine wp_seq_k fun _ κ11 => wl_region (wl_fare kn ?_)
  simp (disch := omega) only [fx, pv, kx]
  refine wl_nil (κ11 _ _ ?_)
  refine wp_seq_k fun _ κ12 => wl_region (wl_fare kn ?_)
  simp (disch := omega) only [fx, pv, kx]
  refine wl_give rfl (g_irem 2 _ _ .i64 (a) (1152921504606846976) (P) rfl rfl (by decide) e1.out ?_)
  refine wl_fare kn ?_
  simp (disch := omega) only [fx, pv, kx]
  refine wl_nil (κ12 _ _ ?_)
  refine wp_seq_k fun _ κ13 => wl_region (wl_fare kn ?_)
  simp (config := { maxSteps := 10000000 }) (disch := omega) only [fx, pv, kx]
  refine wl_give rfl (g_irem 34 _ _ .u64 (x) (1099511627776) (X) rfl rfl (by decide) e2.out ?_)
  try simp only [nz]
  refine wl_give rfl (g_cvU2 _ (X) (X) rfl (c2.out) ?_)
  refine wl_fare kn ?_
  simp (config := { maxSteps := 10000000 }) (disch := omega) only [fx, pv, kx, (s1.out : IntKind.i64.wrap ((P) + (X)) = T2)]
  refine wl_nil (κ13 _ _ ?_)
  refine wp_seq_k fun _ κ14 => wl_region (wl_fare kn ?_)
  simp (config := { maxSteps := 10000000 }) (disch := omega) only [fx, pv, kx]
  refine wl_give rfl (g_irem 34 _ _ .u64 (y) (1099511627776) (Y) rfl rfl (by decide) e3.out ?_)
  try simp only [nz]
  refine wl_give rfl (g_cvU2 _ (Y) (Y) rfl (c3.out) ?_)
  refine wl_fare kn ?_
  simp (config := { maxSteps := 10000000 }) (disch := omega) only [fx, pv, kx, (s2.out : IntKind.i64.wrap ((T2) + (Y)) = T3)]
  refine wl_nil (κ14 _ _ ?_)
  refine wp_seq_k fun _ κ15 => wl_region (wl_fare kn ?_)
  simp (config := { maxSteps := 10000000 }) (disch := omega) only [fx, pv, kx]
  refine wl_give rfl (g_irem 34 _ _ .u64 (z) (1099511627776) (Z) rfl rfl (by decide) e4.out ?_)
  try simp only [nz]
  refine wl_give rfl (g_cvU2 _ (Z) (Z) rfl (c4.out) ?_)
  refine wl_fare kn ?_
  simp (config := { maxSteps := 10000000 }) (disch := omega) only [fx, pv, kx, (s3.out : IntKind.i64.wrap ((T3) + (Z)) = T4)]
  refine wl_nil (κ15 _ _ ?_)
  refine wp_seq_k fun _ κ16 => wl_region (wl_fare kn ?_)
  simp (config := { maxSteps := 10000000 }) (disch := omega) only [fx, pv, kx]
  refine wl_give rfl (g_irem 2 _ _ .i64 (s) (1152921504606846976) (S) rfl rfl (by decide) e5.out ?_)
  refine wl_fare kn ?_
  simp (disch := omega) only [fx, pv, kx]
  refine wl_give rfl (g_cM hM (kf15 _ _) (Wd.new_good P S (W) w4 oW.out) rfl fun w17 hM => wl_fare kn ?_)
  simp (config := { maxSteps := 10000000 }) (disch := omega) only [fx, pv, kx]
  refine wl_give rfl (g_alloc 36 (Wd.cl (0) (0) (0)) Wd.zeroC fun w18 t_ b_ => ?_)
  replace hM := hM.new t_ b_
  clear t_ b_
  try simp only [nz]
  refine wl_give rfl (g_store_all 36 _ _ (w17.heap.size) (Wd.cl (P) (S) (W)) _ 36 rfl rfl (hM.get 0 rfl) (Wd.szC _ _ _) (rfl) (Wd.one_cl _ _ _) fun w19 t_ b_ => ?_)
  replace hM : Ms w w19 [blk (w17.heap.size) (Wd.cl (P) (S) (W)) 36] := hM.put 0 rfl t_ b_
  clear t_ b_
  refine wl_fare kn ?_
  simp (disch := omega) only [fx, pv, kx]
  refine wl_nil (κ16 _ _ ?_)
  refine wp_seq_k fun _ κ20 => wl_region (wl_give rfl (g_load_all 36 _ (w17.heap.size) (Wd.cl (P) (S) (W)) 36 _ rfl (hM.get 0 rfl) Tryd.underlying36 rfl (Wd.szC _ _ _) ?_))
  refine wl_fare kn ?_
  simp (disch := omega) only [fx, pv, kx]
  refine wl_give rfl (g_cM hM (kf16 _ _) (Wd.read_any P S (W) (P) (S) 0 w19 iP.out iS.out iW.out iP.out h1.out) rfl fun w21 hM => wl_fare kn ?_)
  simp (config := { maxSteps := 10000000 }) (disch := omega) only [fx, pv, kx]
  refine wl_nil (κ20 _ _ ?_)
  refine wp_seq_k fun _ κ22 => wl_region (wl_give rfl (g_load_all 36 _ (w17.heap.size) (Wd.cl (P) (S) (W)) 36 _ rfl (hM.get 0 rfl) Tryd.underlying36 rfl (Wd.szC _ _ _) ?_))
  refine wl_fare kn ?_
  simp (disch := omega) only [fx, pv, kx]
  refine wl_give rfl (g_cM hM (kf16 _ _) (Wd.read_any P S (W) (T4) (N) 0 w21 iP.out iS.out iW.out i4.out h2.out) rfl fun w23 hM => wl_fare kn ?_)
  simp (config := { maxSteps := 10000000 }) (disch := omega) only [fx, pv, kx]
  refine wl_nil (κ22 _ _ ?_)
  refine wp_seq_k fun _ κ24 => wl_region (wl_fare kn ?_)
  simp (config := { maxSteps := 10000000 }) (disch := omega) only [fx, pv, kx]
  refine wl_give rfl (g_cM hM (kf11 _ _) (round_any (S) (T2) (T3) (N) (R) w23 (iS.out) (i2.out) (i3.out) (iN.out) (0) (0) (0) (3) h3) rfl fun w25 hM => wl_fare kn ?_)
  simp (config := { maxSteps := 10000000 }) (disch := omega) only [fx, pv, kx]
  refine wl_give rfl (g_alloc 23 (smc (0) (0) (0)) zeroSm fun w26 t_ b_ => ?_)
  replace hM := hM.new t_ b_
  clear t_ b_
  try simp only [nz]
  refine wl_give rfl (g_store_all 23 _ _ (w25.heap.size) (smc (0) (0) (0)) _ 23 rfl rfl (hM.get 0 rfl) (szSm _ _ _) (rfl) (one_smc _ _ _) fun w27 t_ b_ => ?_)
  replace hM : Ms w w27 [blk (w25.heap.size) (smc (0) (0) (0)) 23, blk (w17.heap.size) (Wd.cl (P) (S) (W)) 36] := hM.put 0 rfl t_ b_
  clear t_ b_
  refine wl_fare kn ?_
  simp (disch := omega) only [fx, pv, kx]
  refine wl_nil (κ24 _ _ ?_)
  refine wp_seq_k fun _ κ28 => wp_seq_k fun _ κ29 => wl_region (wl_fare kn ?_)
  simp (config := { maxSteps := 10000000 }) (disch := omega) only [fx, pv, kx]
  refine wl_nil (κ29 _ _ ?_)
  refine wp_cond_false rfl (wp_skip ?_)
  refine κ28 _ _ (wp_seq_k fun _ κ30 => ?_)
  refine wp_seq_k fun _ κ31 => wl_region (wl_fare kn ?_)
  simp (config := { maxSteps := 10000000 }) (disch := omega) only [fx, pv, kx]
  refine wl_nil (κ31 _ _ ?_)
  refine wp_cond_true rfl (wp_seq_k fun _ κ32 => ?_)
  refine wl_text (C := fun wx => Ms w wx [blk (w25.heap.size) (smc (0) (0) (0)) 23, blk (w17.heap.size) (Wd.cl (P) (S) (W)) 36]) (by kernel_rfl) [.int .i64 (3), .bool true, .bool true, .agg (smc (0) (0) (0)).toArray, .agg (smc (0) (0) (0)).toArray, .bool true, .bool true, .bool true] (by rfl) hM (by simp only [fullL, Act.put, st_a, st_s, st_0]; exact ⟨mvL rfl rfl, fun _ hM => gw rfl (g_ieq 25 _ _ .i64 (3) (3) true rfl rfl (by decide) ⟨rfl, hM⟩), mvL rfl rfl, fun _ hM => gw rfl (g_load_all 23 _ (w25.heap.size) (smc (0) (0) (0)) 23 _ rfl (hM.get 0 rfl) Tryd.underlying23 rfl (szSm _ _ _) ⟨rfl, hM⟩), fun _ hM => gw rfl (g_bldSm_n   ⟨rfl, hM⟩), fun _ hM => gw rfl (g_eqlSm _ _ (0) (0) (0) (0) (0) (0) true rfl rfl (decide_eq_true ⟨rfl, rfl, rfl⟩) ⟨rfl, hM⟩), ptL rfl rfl rfl, asL rfl rfl, trivial⟩) ?_
  simp only [fullL, Act.put, st_a, st_s, st_0]
  intro w33 hM
  refine κ32 _ _ (wp_ret ?_)
  go_ret
  exact ⟨rfl, hM.below⟩
set_option maxHeartbeats 8000000 in
theorem walk_pos0 (a s x y z u r : Int) (w : World) (hT : Tabs w) (P X Y Z S R0 T2 T3 T4 R W N : Int) (e1 : Shut (a.tmod 1152921504606846976 = P)) (e2 : Shut (x.tmod 1099511627776 = X)) (e3 : Shut (y.tmod 1099511627776 = Y)) (e4 : Shut (z.tmod 1099511627776 = Z)) (e5 : Shut (s.tmod 1152921504606846976 = S)) (e6 : Shut (r.tmod 100000001 = R0)) (c2 : Shut (IntKind.i64.wrap X = X)) (c3 : Shut (IntKind.i64.wrap Y = Y)) (c4 : Shut (IntKind.i64.wrap Z = Z)) (s1 : Shut (IntKind.i64.wrap (P + X) = T2)) (s2 : Shut (IntKind.i64.wrap (T2 + Y) = T3)) (s3 : Shut (IntKind.i64.wrap (T3 + Z) = T4)) (iP : Shut (Wd.In64 P)) (i2 : Shut (Wd.In64 T2)) (i3 : Shut (Wd.In64 T3)) (i4 : Shut (Wd.In64 T4)) (iS : Shut (Wd.In64 S)) (iW : Shut (Wd.In64 W)) (iN : Shut (Wd.In64 N)) (oW : Shut (Wd.Ok W)) (h1 : Shut (Wd.rd P S W P = (S, 0))) (h2 : Shut (Wd.rd P S W T4 = (N, 0))) (n0 : ¬ R0 < 0) (n2 : 0 < R0) (Q : Int) (n3 : Shut (IntKind.i64.wrap (R0 + 1) = Q)) (n4 : Shut (u.tmod Q = W)) (n5 : Q ≠ 0) (O D B K G J : Int) (k1 : Shut (IntKind.i64.wrap (T4 - N) = K)) (k2 : Shut (IntKind.i64.wrap (K - O) = G)) (k3 : Shut (IntKind.i64.wrap (-G) = J)) (k4 : G ≤ B) (k5 : J ≤ B) (h3 : Shut (vrd S T2 T3 N R0 = ((O, D, B), 0))) : Calls Tryd.prog 4 #[.int .i64 a, .int .i64 s, .int .u64 x, .int .u64 y, .int .u64 z, .int .i64 u, .int .i64 r] w fun e w' => e = .returned (.bool true) ∧ Below w.heap.size w w' := by
  have hM := Ms.refl w
  go_enter Tryd.func4, Tryd.ntmps4
  refine wp_seq_k fun _ κ1 => wl_region (wl_fare kn ?_)
  simp (disch := omega) only [fx, pv, kx]
  refine wl_nil (κ1 _ _ ?_)
  refine wp_seq_k fun _ κ2 => wp_seq_k fun _ κ3 => wl_region (wl_give rfl (g_cM hM (kf10 _ _) (awake_any w (hM.tabs hT)) rfl ?_))
  intro w4 hM
  refine wl_fare kn ?_
  simp (disch := omega) only [fx, pv, kx]
  refine wl_nil (κ3 _ _ ?_)
  refine wp_cond_false rfl (wp_skip ?_)
  refine κ2 _ _ (wp_seq_k fun _ κ5 => ?_)
  refine wl_region (wl_fare kn ?_)
  simp (disch := omega) only [fx, pv, kx]
  refine wl_give rfl (g_irem 2 _ _ .i64 (r) (100000001) (R0) rfl rfl (by decide) e6.out ?_)
  refine wl_fare kn ?_
  simp (disch := omega) only [fx, pv, kx]
  refine wl_nil (κ5 _ _ ?_)
  refine wp_seq_k fun _ κ6 => wp_seq_k fun _ κ7 => wl_region (wl_fare kn ?_)
  simp (config := { maxSteps := 10000000 }) (disch := omega) only [fx, pv, kx]
  refine wl_nil (κ7 _ _ ?_)
  refine wp_cond_false rfl (wp_skip ?_)
  refine κ6 _ _ (wp_seq_k fun _ κ8 => ?_)
  refine wl_region (wl_fare kn ?_)
  simp (disch := omega) only [fx, pv, kx]
  refine wl_nil (κ8 _ _ ?_)
  refine wp_seq_k fun _ κ9 => wp_seq_k fun _ κ10 => wl_region (wl_fare kn ?_)
  simp (config := { maxSteps := 10000000 }) (disch := omega) only [fx, pv, kx]
  refine wl_nil (κ10 _ _ ?_)
  refine wp_cond_true rfl (wl_region (wl_fare kn ?_))
  simp (config := { maxSteps := 10000000 }) (disch := omega) only [fx, pv, kx, (n3.out : IntKind.i64.wrap ((R0) + (1)) = Q)]
  refine wl_give rfl (g_irem 2 _ _ .i64 (u) (Q) (W) rfl rfl n5 n4.out ?_)
  refine wl_fare kn ?_
  simp (disch := omega) only [fx, pv, kx]
  refine wl_nil (κ9 _ _ ?_)
  refine wp_seq_k fun _ κ11 => wl_region (wl_fare kn ?_)
  simp (disch := omega) only [fx, pv, kx]
  refine wl_nil (κ11 _ _ ?_)
  refine wp_seq_k fun _ κ12 => wl_region (wl_fare kn ?_)
  simp (disch := omega) only [fx, pv, kx]
  refine wl_give rfl (g_irem 2 _ _ .i64 (a) (1152921504606846976) (P) rfl rfl (by decide) e1.out ?_)
  refine wl_fare kn ?_
  simp (disch := omega) only [fx, pv, kx]
  refine wl_nil (κ12 _ _ ?_)
  refine wp_seq_k fun _ κ13 => wl_region (wl_fare kn ?_)
  simp (config := { maxSteps := 10000000 }) (disch := omega) only [fx, pv, kx]
  refine wl_give rfl (g_irem 34 _ _ .u64 (x) (1099511627776) (X) rfl rfl (by decide) e2.out ?_)
  try simp only [nz]
  refine wl_give rfl (g_cvU2 _ (X) (X) rfl (c2.out) ?_)
  refine wl_fare kn ?_
  simp (config := { maxSteps := 10000000 }) (disch := omega) only [fx, pv, kx, (s1.out : IntKind.i64.wrap ((P) + (X)) = T2)]
  refine wl_nil (κ13 _ _ ?_)
  refine wp_seq_k fun _ κ14 => wl_region (wl_fare kn ?_)
  simp (config := { maxSteps := 10000000 }) (disch := omega) only [fx, pv, kx]
  refine wl_give rfl (g_irem 34 _ _ .u64 (y) (1099511627776) (Y) rfl rfl (by decide) e3.out ?_)
  try simp only [nz]
  refine wl_give rfl (g_cvU2 _ (Y) (Y) rfl (c3.out) ?_)
  refine wl_fare kn ?_
  simp (config := { maxSteps := 10000000 }) (disch := omega) only [fx, pv, kx, (s2.out : IntKind.i64.wrap ((T2) + (Y)) = T3)]
  refine wl_nil (κ14 _ _ ?_)
  refine wp_seq_k fun _ κ15 => wl_region (wl_fare kn ?_)
  simp (config := { maxSteps := 10000000 }) (disch := omega) only [fx, pv, kx]
  refine wl_give rfl (g_irem 34 _ _ .u64 (z) (1099511627776) (Z) rfl rfl (by decide) e4.out ?_)
  try simp only [nz]
  refine wl_give rfl (g_cvU2 _ (Z) (Z) rfl (c4.out) ?_)
  refine wl_fare kn ?_
  simp (config := { maxSteps := 10000000 }) (disch := omega) only [fx, pv, kx, (s3.out : IntKind.i64.wrap ((T3) + (Z)) = T4)]
  refine wl_nil (κ15 _ _ ?_)
  refine wp_seq_k fun _ κ16 => wl_region (wl_fare kn ?_)
  simp (config := { maxSteps := 10000000 }) (disch := omega) only [fx, pv, kx]
  refine wl_give rfl (g_irem 2 _ _ .i64 (s) (1152921504606846976) (S) rfl rfl (by decide) e5.out ?_)
  refine wl_fare kn ?_
  simp (disch := omega) only [fx, pv, kx]
  refine wl_give rfl (g_cM hM (kf15 _ _) (Wd.new_good P S (W) w4 oW.out) rfl fun w17 hM => wl_fare kn ?_)
  simp (config := { maxSteps := 10000000 }) (disch := omega) only [fx, pv, kx]
  refine wl_give rfl (g_alloc 36 (Wd.cl (0) (0) (0)) Wd.zeroC fun w18 t_ b_ => ?_)
  replace hM := hM.new t_ b_
  clear t_ b_
  try simp only [nz]
  refine wl_give rfl (g_store_all 36 _ _ (w17.heap.size) (Wd.cl (P) (S) (W)) _ 36 rfl rfl (hM.get 0 rfl) (Wd.szC _ _ _) (rfl) (Wd.one_cl _ _ _) fun w19 t_ b_ => ?_)
  replace hM : Ms w w19 [blk (w17.heap.size) (Wd.cl (P) (S) (W)) 36] := hM.put 0 rfl t_ b_
  clear t_ b_
  refine wl_fare kn ?_
  simp (disch := omega) only [fx, pv, kx]
  refine wl_nil (κ16 _ _ ?_)
  refine wp_seq_k fun _ κ20 => wl_region (wl_give rfl (g_load_all 36 _ (w17.heap.size) (Wd.cl (P) (S) (W)) 36 _ rfl (hM.get 0 rfl) Tryd.underlying36 rfl (Wd.szC _ _ _) ?_))
  refine wl_fare kn ?_
  simp (disch := omega) only [fx, pv, kx]
  refine wl_give rfl (g_cM hM (kf16 _ _) (Wd.read_any P S (W) (P) (S) 0 w19 iP.out iS.out iW.out iP.out h1.out) rfl fun w21 hM => wl_fare kn ?_)
  simp (config := { maxSteps := 10000000 }) (disch := omega) only [fx, pv, kx]
  refine wl_nil (κ20 _ _ ?_)
  refine wp_seq_k fun _ κ22 => wl_region (wl_give rfl (g_load_all 36 _ (w17.heap.size) (Wd.cl (P) (S) (W)) 36 _ rfl (hM.get 0 rfl) Tryd.underlying36 rfl (Wd.szC _ _ _) ?_))
  refine wl_fare kn ?_
  simp (disch := omega) only [fx, pv, kx]
  refine wl_give rfl (g_cM hM (kf16 _ _) (Wd.read_any P S (W) (T4) (N) 0 w21 iP.out iS.out iW.out i4.out h2.out) rfl fun w23 hM => wl_fare kn ?_)
  simp (config := { maxSteps := 10000000 }) (disch := omega) only [fx, pv, kx]
  refine wl_nil (κ22 _ _ ?_)
  refine wp_seq_k fun _ κ24 => wl_region (wl_fare kn ?_)
  simp (config := { maxSteps := 10000000 }) (disch := omega) only [fx, pv, kx]
  refine wl_give rfl (g_cM hM (kf11 _ _) (round_any (S) (T2) (T3) (N) (R0) w23 (iS.out) (i2.out) (i3.out) (iN.out) (O) (D) (B) (0) h3) rfl fun w25 hM => wl_fare kn ?_)
  simp (config := { maxSteps := 10000000 }) (disch := omega) only [fx, pv, kx]
  refine wl_give rfl (g_alloc 23 (smc (0) (0) (0)) zeroSm fun w26 t_ b_ => ?_)
  replace hM := hM.new t_ b_
  clear t_ b_
  try simp only [nz]
  refine wl_give rfl (g_store_all 23 _ _ (w25.heap.size) (smc (O) (D) (B)) _ 23 rfl rfl (hM.get 0 rfl) (szSm _ _ _) (rfl) (one_smc _ _ _) fun w27 t_ b_ => ?_)
  replace hM : Ms w w27 [blk (w25.heap.size) (smc (O) (D) (B)) 23, blk (w17.heap.size) (Wd.cl (P) (S) (W)) 36] := hM.put 0 rfl t_ b_
  clear t_ b_
  refine wl_fare kn ?_
  simp (disch := omega) only [fx, pv, kx]
  refine wl_nil (κ24 _ _ ?_)
  refine wp_seq_k fun _ κ28 => wp_seq_k fun _ κ29 => wl_region (wl_fare kn ?_)
  simp (config := { maxSteps := 10000000 }) (disch := omega) only [fx, pv, kx]
  refine wl_nil (κ29 _ _ ?_)
  refine wp_cond_false rfl (wp_skip ?_)
  refine κ28 _ _ (wp_seq_k fun _ κ30 => ?_)
  refine wp_seq_k fun _ κ31 => wl_region (wl_fare kn ?_)
  simp (config := { maxSteps := 10000000 }) (disch := omega) only [fx, pv, kx]
  refine wl_nil (κ31 _ _ ?_)
  refine wp_cond_false rfl (wp_skip ?_)
  refine κ30 _ _ (wp_seq_k fun _ κ32 => ?_)
  refine wl_region (wl_fare kn ?_)
  simp (config := { maxSteps := 10000000 }) (disch := omega) only [fx, pv, kx, (k1.out : IntKind.i64.wrap ((T4) - (N)) = K), (hM.get 0 rfl).cell 0 (.int .i64 (O)) rfl, (k2.out : IntKind.i64.wrap ((K) - (O)) = G)]
  refine wl_nil (κ32 _ _ ?_)
  refine wp_seq_k fun _ κ33 => ?_
  refine wl_text (C := fun wx => Ms w wx [blk (w25.heap.size) (smc (O) (D) (B)) 23, blk (w17.heap.size) (Wd.cl (P) (S) (W)) 36]) (by kernel_rfl) [.int .i64 (G), .pointer (some ⟨w25.heap.size, 2, none⟩), .int .i64 (B), .bool true, .bool true, .int .i64 (G), .int .i64 (J), .pointer (some ⟨w25.heap.size, 2, none⟩), .int .i64 (B), .bool true, .bool true, .bool true] (by rfl) hM (by simp only [fullL, Act.put, st_a, st_s, st_0]; exact ⟨mvL rfl rfl, faL rfl rfl (fun _ => faSm2 _ _ _), fun _ hM => gw rfl (g_ld1 2 _ (w25.heap.size) (2) _ rfl (ld2 _ _ _ _ ((hM.get 0 rfl).cell (2) _ (rfl))) ⟨rfl, hM⟩), fun _ hM => gw rfl (g_ileq 2 _ _ .i64 (G) (B) true rfl rfl (decide_eq_true k4) ⟨rfl, hM⟩), mvL rfl rfl, mvL rfl rfl, fun _ hM => gw rfl (g_ineg 2 _ (G) (J) rfl k3.out ⟨rfl, hM⟩), faL rfl rfl (fun _ => faSm2 _ _ _), fun _ hM => gw rfl (g_ld1 2 _ (w25.heap.size) (2) _ rfl (ld2 _ _ _ _ ((hM.get 0 rfl).cell (2) _ (rfl))) ⟨rfl, hM⟩), fun _ hM => gw rfl (g_ileq 2 _ _ .i64 (J) (B) true rfl rfl (decide_eq_true k5) ⟨rfl, hM⟩), ptL rfl rfl rfl, asL rfl rfl, trivial⟩) ?_
  simp only [fullL, Act.put, st_a, st_s, st_0]
  intro w34 hM
  refine κ33 _ _ (wp_ret ?_)
  go_ret
  exact ⟨rfl, hM.below⟩
set_option maxHeartbeats 8000000 in
theorem walk_pos3 (a s x y z u r : Int) (w : World) (hT : Tabs w) (P X Y Z S R0 T2 T3 T4 R W N : Int) (e1 : Shut (a.tmod 1152921504606846976 = P)) (e2 : Shut (x.tmod 1099511627776 = X)) (e3 : Shut (y.tmod 1099511627776 = Y)) (e4 : Shut (z.tmod 1099511627776 = Z)) (e5 : Shut (s.tmod 1152921504606846976 = S)) (e6 : Shut (r.tmod 100000001 = R0)) (c2 : Shut (IntKind.i64.wrap X = X)) (c3 : Shut (IntKind.i64.wrap Y = Y)) (c4 : Shut (IntKind.i64.wrap Z = Z)) (s1 : Shut (IntKind.i64.wrap (P + X) = T2)) (s2 : Shut (IntKind.i64.wrap (T2 + Y) = T3)) (s3 : Shut (IntKind.i64.wrap (T3 + Z) = T4)) (iP : Shut (Wd.In64 P)) (i2 : Shut (Wd.In64 T2)) (i3 : Shut (Wd.In64 T3)) (i4 : Shut (Wd.In64 T4)) (iS : Shut (Wd.In64 S)) (iW : Shut (Wd.In64 W)) (iN : Shut (Wd.In64 N)) (oW : Shut (Wd.Ok W)) (h1 : Shut (Wd.rd P S W P = (S, 0))) (h2 : Shut (Wd.rd P S W T4 = (N, 0))) (n0 : ¬ R0 < 0) (n2 : 0 < R0) (Q : Int) (n3 : Shut (IntKind.i64.wrap (R0 + 1) = Q)) (n4 : Shut (u.tmod Q = W)) (n5 : Q ≠ 0) (h3 : Shut (vrd S T2 T3 N R0 = ((0, 0, 0), 3))) : Calls Tryd.prog 4 #[.int .i64 a, .int .i64 s, .int .u64 x, .int .u64 y, .int .u64 z, .int .i64 u, .int .i64 r] w fun e w' => e = .returned (.bool true) ∧ Below w.heap.size w w' := by
  have hM := Ms.refl w
  go_enter Tryd.func4, Tryd.ntmps4
  refine wp_seq_k fun _ κ1 => wl_region (wl_fare kn ?_)
  simp (disch := omega) only [fx, pv, kx]
  refine wl_nil (κ1 _ _ ?_)
  refine wp_seq_k fun _ κ2 => wp_seq_k fun _ κ3 => wl_region (wl_give rfl (g_cM hM (kf10 _ _) (awake_any w (hM.tabs hT)) rfl ?_))
  intro w4 hM
  refine wl_fare kn ?_
  simp (disch := omega) only [fx, pv, kx]
  refine wl_nil (κ3 _ _ ?_)
  refine wp_cond_false rfl (wp_skip ?_)
  refine κ2 _ _ (wp_seq_k fun _ κ5 => ?_)
  refine wl_region (wl_fare kn ?_)
  simp (disch := omega) only [fx, pv, kx]
  refine wl_give rfl (g_irem 2 _ _ .i64 (r) (100000001) (R0) rfl rfl (by decide) e6.out ?_)
  refine wl_fare kn ?_
  simp (disch := omega) only [fx, pv, kx]
  refine wl_nil (κ5 _ _ ?_)
  refine wp_seq_k fun _ κ6 => wp_seq_k fun _ κ7 => wl_region (wl_fare kn ?_)
  simp (config := { maxSteps := 10000000 }) (disch := omega) only [fx, pv, kx]
  refine wl_nil (κ7 _ _ ?_)
  refine wp_cond_false rfl (wp_skip ?_)
  refine κ6 _ _ (wp_seq_k fun _ κ8 => ?_)
  refine wl_region (wl_fare kn ?_)
  simp (disch := omega) only [fx, pv, kx]
  refine wl_nil (κ8 _ _ ?_)
  refine wp_seq_k fun _ κ9 => wp_seq_k fun _ κ10 => wl_region (wl_fare kn ?_)
  simp (config := { maxSteps := 10000000 }) (disch := omega) only [fx, pv, kx]
  refine wl_nil (κ10 _ _ ?_)
  refine wp_cond_true rfl (wl_region (wl_fare kn ?_))
  simp (config := { maxSteps := 10000000 }) (disch := omega) only [fx, pv, kx, (n3.out : IntKind.i64.wrap ((R0) + (1)) = Q)]
  refine wl_give rfl (g_irem 2 _ _ .i64 (u) (Q) (W) rfl rfl n5 n4.out ?_)
  refine wl_fare kn ?_
  simp (disch := omega) only [fx, pv, kx]
  refine wl_nil (κ9 _ _ ?_)
  refine wp_seq_k fun _ κ11 => wl_region (wl_fare kn ?_)
  simp (disch := omega) only [fx, pv, kx]
  refine wl_nil (κ11 _ _ ?_)
  refine wp_seq_k fun _ κ12 => wl_region (wl_fare kn ?_)
  simp (disch := omega) only [fx, pv, kx]
  refine wl_give rfl (g_irem 2 _ _ .i64 (a) (1152921504606846976) (P) rfl rfl (by decide) e1.out ?_)
  refine wl_fare kn ?_
  simp (disch := omega) only [fx, pv, kx]
  refine wl_nil (κ12 _ _ ?_)
  refine wp_seq_k fun _ κ13 => wl_region (wl_fare kn ?_)
  simp (config := { maxSteps := 10000000 }) (disch := omega) only [fx, pv, kx]
  refine wl_give rfl (g_irem 34 _ _ .u64 (x) (1099511627776) (X) rfl rfl (by decide) e2.out ?_)
  try simp only [nz]
  refine wl_give rfl (g_cvU2 _ (X) (X) rfl (c2.out) ?_)
  refine wl_fare kn ?_
  simp (config := { maxSteps := 10000000 }) (disch := omega) only [fx, pv, kx, (s1.out : IntKind.i64.wrap ((P) + (X)) = T2)]
  refine wl_nil (κ13 _ _ ?_)
  refine wp_seq_k fun _ κ14 => wl_region (wl_fare kn ?_)
  simp (config := { maxSteps := 10000000 }) (disch := omega) only [fx, pv, kx]
  refine wl_give rfl (g_irem 34 _ _ .u64 (y) (1099511627776) (Y) rfl rfl (by decide) e3.out ?_)
  try simp only [nz]
  refine wl_give rfl (g_cvU2 _ (Y) (Y) rfl (c3.out) ?_)
  refine wl_fare kn ?_
  simp (config := { maxSteps := 10000000 }) (disch := omega) only [fx, pv, kx, (s2.out : IntKind.i64.wrap ((T2) + (Y)) = T3)]
  refine wl_nil (κ14 _ _ ?_)
  refine wp_seq_k fun _ κ15 => wl_region (wl_fare kn ?_)
  simp (config := { maxSteps := 10000000 }) (disch := omega) only [fx, pv, kx]
  refine wl_give rfl (g_irem 34 _ _ .u64 (z) (1099511627776) (Z) rfl rfl (by decide) e4.out ?_)
  try simp only [nz]
  refine wl_give rfl (g_cvU2 _ (Z) (Z) rfl (c4.out) ?_)
  refine wl_fare kn ?_
  simp (config := { maxSteps := 10000000 }) (disch := omega) only [fx, pv, kx, (s3.out : IntKind.i64.wrap ((T3) + (Z)) = T4)]
  refine wl_nil (κ15 _ _ ?_)
  refine wp_seq_k fun _ κ16 => wl_region (wl_fare kn ?_)
  simp (config := { maxSteps := 10000000 }) (disch := omega) only [fx, pv, kx]
  refine wl_give rfl (g_irem 2 _ _ .i64 (s) (1152921504606846976) (S) rfl rfl (by decide) e5.out ?_)
  refine wl_fare kn ?_
  simp (disch := omega) only [fx, pv, kx]
  refine wl_give rfl (g_cM hM (kf15 _ _) (Wd.new_good P S (W) w4 oW.out) rfl fun w17 hM => wl_fare kn ?_)
  simp (config := { maxSteps := 10000000 }) (disch := omega) only [fx, pv, kx]
  refine wl_give rfl (g_alloc 36 (Wd.cl (0) (0) (0)) Wd.zeroC fun w18 t_ b_ => ?_)
  replace hM := hM.new t_ b_
  clear t_ b_
  try simp only [nz]
  refine wl_give rfl (g_store_all 36 _ _ (w17.heap.size) (Wd.cl (P) (S) (W)) _ 36 rfl rfl (hM.get 0 rfl) (Wd.szC _ _ _) (rfl) (Wd.one_cl _ _ _) fun w19 t_ b_ => ?_)
  replace hM : Ms w w19 [blk (w17.heap.size) (Wd.cl (P) (S) (W)) 36] := hM.put 0 rfl t_ b_
  clear t_ b_
  refine wl_fare kn ?_
  simp (disch := omega) only [fx, pv, kx]
  refine wl_nil (κ16 _ _ ?_)
  refine wp_seq_k fun _ κ20 => wl_region (wl_give rfl (g_load_all 36 _ (w17.heap.size) (Wd.cl (P) (S) (W)) 36 _ rfl (hM.get 0 rfl) Tryd.underlying36 rfl (Wd.szC _ _ _) ?_))
  refine wl_fare kn ?_
  simp (disch := omega) only [fx, pv, kx]
  refine wl_give rfl (g_cM hM (kf16 _ _) (Wd.read_any P S (W) (P) (S) 0 w19 iP.out iS.out iW.out iP.out h1.out) rfl fun w21 hM => wl_fare kn ?_)
  simp (config := { maxSteps := 10000000 }) (disch := omega) only [fx, pv, kx]
  refine wl_nil (κ20 _ _ ?_)
  refine wp_seq_k fun _ κ22 => wl_region (wl_give rfl (g_load_all 36 _ (w17.heap.size) (Wd.cl (P) (S) (W)) 36 _ rfl (hM.get 0 rfl) Tryd.underlying36 rfl (Wd.szC _ _ _) ?_))
  refine wl_fare kn ?_
  simp (disch := omega) only [fx, pv, kx]
  refine wl_give rfl (g_cM hM (kf16 _ _) (Wd.read_any P S (W) (T4) (N) 0 w21 iP.out iS.out iW.out i4.out h2.out) rfl fun w23 hM => wl_fare kn ?_)
  simp (config := { maxSteps := 10000000 }) (disch := omega) only [fx, pv, kx]
  refine wl_nil (κ22 _ _ ?_)
  refine wp_seq_k fun _ κ24 => wl_region (wl_fare kn ?_)
  simp (config := { maxSteps := 10000000 }) (disch := omega) only [fx, pv, kx]
  refine wl_give rfl (g_cM hM (kf11 _ _) (round_any (S) (T2) (T3) (N) (R0) w23 (iS.out) (i2.out) (i3.out) (iN.out) (0) (0) (0) (3) h3) rfl fun w25 hM => wl_fare kn ?_)
  simp (config := { maxSteps := 10000000 }) (disch := omega) only [fx, pv, kx]
  refine wl_give rfl (g_alloc 23 (smc (0) (0) (0)) zeroSm fun w26 t_ b_ => ?_)
  replace hM := hM.new t_ b_
  clear t_ b_
  try simp only [nz]
  refine wl_give rfl (g_store_all 23 _ _ (w25.heap.size) (smc (0) (0) (0)) _ 23 rfl rfl (hM.get 0 rfl) (szSm _ _ _) (rfl) (one_smc _ _ _) fun w27 t_ b_ => ?_)
  replace hM : Ms w w27 [blk (w25.heap.size) (smc (0) (0) (0)) 23, blk (w17.heap.size) (Wd.cl (P) (S) (W)) 36] := hM.put 0 rfl t_ b_
  clear t_ b_
  refine wl_fare kn ?_
  simp (disch := omega) only [fx, pv, kx]
  refine wl_nil (κ24 _ _ ?_)
  refine wp_seq_k fun _ κ28 => wp_seq_k fun _ κ29 => wl_region (wl_fare kn ?_)
  simp (config := { maxSteps := 10000000 }) (disch := omega) only [fx, pv, kx]
  refine wl_nil (κ29 _ _ ?_)
  refine wp_cond_false rfl (wp_skip ?_)
  refine κ28 _ _ (wp_seq_k fun _ κ30 => ?_)
  refine wp_seq_k fun _ κ31 => wl_region (wl_fare kn ?_)
  simp (config := { maxSteps := 10000000 }) (disch := omega) only [fx, pv, kx]
  refine wl_nil (κ31 _ _ ?_)
  refine wp_cond_true rfl (wp_seq_k fun _ κ32 => ?_)
  refine wl_text (C := fun wx => Ms w wx [blk (w25.heap.size) (smc (0) (0) (0)) 23, blk (w17.heap.size) (Wd.cl (P) (S) (W)) 36]) (by kernel_rfl) [.int .i64 (3), .bool true, .bool true, .agg (smc (0) (0) (0)).toArray, .agg (smc (0) (0) (0)).toArray, .bool true, .bool true, .bool true] (by rfl) hM (by simp only [fullL, Act.put, st_a, st_s, st_0]; exact ⟨mvL rfl rfl, fun _ hM => gw rfl (g_ieq 25 _ _ .i64 (3) (3) true rfl rfl (by decide) ⟨rfl, hM⟩), mvL rfl rfl, fun _ hM => gw rfl (g_load_all 23 _ (w25.heap.size) (smc (0) (0) (0)) 23 _ rfl (hM.get 0 rfl) Tryd.underlying23 rfl (szSm _ _ _) ⟨rfl, hM⟩), fun _ hM => gw rfl (g_bldSm_n   ⟨rfl, hM⟩), fun _ hM => gw rfl (g_eqlSm _ _ (0) (0) (0) (0) (0) (0) true rfl rfl (decide_eq_true ⟨rfl, rfl, rfl⟩) ⟨rfl, hM⟩), ptL rfl rfl rfl, asL rfl rfl, trivial⟩) ?_
  simp only [fullL, Act.put, st_a, st_s, st_0]
  intro w33 hM
  refine κ32 _ _ (wp_ret ?_)
  go_ret
  exact ⟨rfl, hM.below⟩
set_option maxHeartbeats 8000000 in
theorem walk_zero0 (a s x y z u r : Int) (w : World) (hT : Tabs w) (P X Y Z S R0 T2 T3 T4 R W N : Int) (e1 : Shut (a.tmod 1152921504606846976 = P)) (e2 : Shut (x.tmod 1099511627776 = X)) (e3 : Shut (y.tmod 1099511627776 = Y)) (e4 : Shut (z.tmod 1099511627776 = Z)) (e5 : Shut (s.tmod 1152921504606846976 = S)) (e6 : Shut (r.tmod 100000001 = R0)) (c2 : Shut (IntKind.i64.wrap X = X)) (c3 : Shut (IntKind.i64.wrap Y = Y)) (c4 : Shut (IntKind.i64.wrap Z = Z)) (s1 : Shut (IntKind.i64.wrap (P + X) = T2)) (s2 : Shut (IntKind.i64.wrap (T2 + Y) = T3)) (s3 : Shut (IntKind.i64.wrap (T3 + Z) = T4)) (iP : Shut (Wd.In64 P)) (i2 : Shut (Wd.In64 T2)) (i3 : Shut (Wd.In64 T3)) (i4 : Shut (Wd.In64 T4)) (iS : Shut (Wd.In64 S)) (iW : Shut (Wd.In64 0)) (iN : Shut (Wd.In64 N)) (oW : Shut (Wd.Ok 0)) (h1 : Shut (Wd.rd P S 0 P = (S, 0))) (h2 : Shut (Wd.rd P S 0 T4 = (N, 0))) (n0 : ¬ R0 < 0) (n2 : ¬ 0 < R0) (O D B K G J : Int) (k1 : Shut (IntKind.i64.wrap (T4 - N) = K)) (k2 : Shut (IntKind.i64.wrap (K - O) = G)) (k3 : Shut (IntKind.i64.wrap (-G) = J)) (k4 : G ≤ B) (k5 : J ≤ B) (h3 : Shut (vrd S T2 T3 N R0 = ((O, D, B), 0))) : Calls Tryd.prog 4 #[.int .i64 a, .int .i64 s, .int .u64 x, .int .u64 y, .int .u64 z, .int .i64 u, .int .i64 r] w fun e w' => e = .returned (.bool true) ∧ Below w.heap.size w w' := by
  have hM := Ms.refl w
  go_enter Tryd.func4, Tryd.ntmps4
  refine wp_seq_k fun _ κ1 => wl_region (wl_fare kn ?_)
  simp (disch := omega) only [fx, pv, kx]
  refine wl_nil (κ1 _ _ ?_)
  refine wp_seq_k fun _ κ2 => wp_seq_k fun _ κ3 => wl_region (wl_give rfl (g_cM hM (kf10 _ _) (awake_any w (hM.tabs hT)) rfl ?_))
  intro w4 hM
  refine wl_fare kn ?_
  simp (disch := omega) only [fx, pv, kx]
  refine wl_nil (κ3 _ _ ?_)
  refine wp_cond_false rfl (wp_skip ?_)
  refine κ2 _ _ (wp_seq_k fun _ κ5 => ?_)
  refine wl_region (wl_fare kn ?_)
  simp (disch := omega) only [fx, pv, kx]
  refine wl_give rfl (g_irem 2 _ _ .i64 (r) (100000001) (R0) rfl rfl (by decide) e6.out ?_)
  refine wl_fare kn ?_
  simp (disch := omega) only [fx, pv, kx]
  refine wl_nil (κ5 _ _ ?_)
  refine wp_seq_k fun _ κ6 => wp_seq_k fun _ κ7 => wl_region (wl_fare kn ?_)
  simp (config := { maxSteps := 10000000 }) (disch := omega) only [fx, pv, kx]
  refine wl_nil (κ7 _ _ ?_)
  refine wp_cond_false rfl (wp_skip ?_)
  refine κ6 _ _ (wp_seq_k fun _ κ8 => ?_)
  refine wl_region (wl_fare kn ?_)
  simp (disch := omega) only [fx, pv, kx]
  refine wl_nil (κ8 _ _ ?_)
  refine wp_seq_k fun _ κ9 => wp_seq_k fun _ κ10 => wl_region (wl_fare kn ?_)
  simp (config := { maxSteps := 10000000 }) (disch := omega) only [fx, pv, kx]
  refine wl_nil (κ10 _ _ ?_)
  refine wp_cond_false rfl (wp_skip ?_)
  refine κ9 _ _ (wp_seq_k fun _ κ11 => ?_)
  refine wl_region (wl_fare kn ?_)
  simp (disch := omega) only [fx, pv, kx]
  refine wl_nil (κ11 _ _ ?_)
  refine wp_seq_k fun _ κ12 => wl_region (wl_fare kn ?_)
  simp (disch := omega) only [fx, pv, kx]
  refine wl_give rfl (g_irem 2 _ _ .i64 (a) (1152921504606846976) (P) rfl rfl (by decide) e1.out ?_)
  refine wl_fare kn ?_
  simp (disch := omega) only [fx, pv, kx]
  refine wl_nil (κ12 _ _ ?_)
  refine wp_seq_k fun _ κ13 => wl_region (wl_fare kn ?_)
  simp (config := { maxSteps := 10000000 }) (disch := omega) only [fx, pv, kx]
  refine wl_give rfl (g_irem 34 _ _ .u64 (x) (1099511627776) (X) rfl rfl (by decide) e2.out ?_)
  try simp only [nz]
  refine wl_give rfl (g_cvU2 _ (X) (X) rfl (c2.out) ?_)
  refine wl_fare kn ?_
  simp (config := { maxSteps := 10000000 }) (disch := omega) only [fx, pv, kx, (s1.out : IntKind.i64.wrap ((P) + (X)) = T2)]
  refine wl_nil (κ13 _ _ ?_)
  refine wp_seq_k fun _ κ14 => wl_region (wl_fare kn ?_)
  simp (config := { maxSteps := 10000000 }) (disch := omega) only [fx, pv, kx]
  refine wl_give rfl (g_irem 34 _ _ .u64 (y) (1099511627776) (Y) rfl rfl (by decide) e3.out ?_)
  try simp only [nz]
  refine wl_give rfl (g_cvU2 _ (Y) (Y) rfl (c3.out) ?_)
  refine wl_fare kn ?_
  simp (config := { maxSteps := 10000000 }) (disch := omega) only [fx, pv, kx, (s2.out : IntKind.i64.wrap ((T2) + (Y)) = T3)]
  refine wl_nil (κ14 _ _ ?_)
  refine wp_seq_k fun _ κ15 => wl_region (wl_fare kn ?_)
  simp (config := { maxSteps := 10000000 }) (disch := omega) only [fx, pv, kx]
  refine wl_give rfl (g_irem 34 _ _ .u64 (z) (1099511627776) (Z) rfl rfl (by decide) e4.out ?_)
  try simp only [nz]
  refine wl_give rfl (g_cvU2 _ (Z) (Z) rfl (c4.out) ?_)
  refine wl_fare kn ?_
  simp (config := { maxSteps := 10000000 }) (disch := omega) only [fx, pv, kx, (s3.out : IntKind.i64.wrap ((T3) + (Z)) = T4)]
  refine wl_nil (κ15 _ _ ?_)
  refine wp_seq_k fun _ κ16 => wl_region (wl_fare kn ?_)
  simp (config := { maxSteps := 10000000 }) (disch := omega) only [fx, pv, kx]
  refine wl_give rfl (g_irem 2 _ _ .i64 (s) (1152921504606846976) (S) rfl rfl (by decide) e5.out ?_)
  refine wl_fare kn ?_
  simp (disch := omega) only [fx, pv, kx]
  refine wl_give rfl (g_cM hM (kf15 _ _) (Wd.new_good P S (0) w4 oW.out) rfl fun w17 hM => wl_fare kn ?_)
  simp (config := { maxSteps := 10000000 }) (disch := omega) only [fx, pv, kx]
  refine wl_give rfl (g_alloc 36 (Wd.cl (0) (0) (0)) Wd.zeroC fun w18 t_ b_ => ?_)
  replace hM := hM.new t_ b_
  clear t_ b_
  try simp only [nz]
  refine wl_give rfl (g_store_all 36 _ _ (w17.heap.size) (Wd.cl (P) (S) (0)) _ 36 rfl rfl (hM.get 0 rfl) (Wd.szC _ _ _) (rfl) (Wd.one_cl _ _ _) fun w19 t_ b_ => ?_)
  replace hM : Ms w w19 [blk (w17.heap.size) (Wd.cl (P) (S) (0)) 36] := hM.put 0 rfl t_ b_
  clear t_ b_
  refine wl_fare kn ?_
  simp (disch := omega) only [fx, pv, kx]
  refine wl_nil (κ16 _ _ ?_)
  refine wp_seq_k fun _ κ20 => wl_region (wl_give rfl (g_load_all 36 _ (w17.heap.size) (Wd.cl (P) (S) (0)) 36 _ rfl (hM.get 0 rfl) Tryd.underlying36 rfl (Wd.szC _ _ _) ?_))
  refine wl_fare kn ?_
  simp (disch := omega) only [fx, pv, kx]
  refine wl_give rfl (g_cM hM (kf16 _ _) (Wd.read_any P S (0) (P) (S) 0 w19 iP.out iS.out iW.out iP.out h1.out) rfl fun w21 hM => wl_fare kn ?_)
  simp (config := { maxSteps := 10000000 }) (disch := omega) only [fx, pv, kx]
  refine wl_nil (κ20 _ _ ?_)
  refine wp_seq_k fun _ κ22 => wl_region (wl_give rfl (g_load_all 36 _ (w17.heap.size) (Wd.cl (P) (S) (0)) 36 _ rfl (hM.get 0 rfl) Tryd.underlying36 rfl (Wd.szC _ _ _) ?_))
  refine wl_fare kn ?_
  simp (disch := omega) only [fx, pv, kx]
  refine wl_give rfl (g_cM hM (kf16 _ _) (Wd.read_any P S (0) (T4) (N) 0 w21 iP.out iS.out iW.out i4.out h2.out) rfl fun w23 hM => wl_fare kn ?_)
  simp (config := { maxSteps := 10000000 }) (disch := omega) only [fx, pv, kx]
  refine wl_nil (κ22 _ _ ?_)
  refine wp_seq_k fun _ κ24 => wl_region (wl_fare kn ?_)
  simp (config := { maxSteps := 10000000 }) (disch := omega) only [fx, pv, kx]
  refine wl_give rfl (g_cM hM (kf11 _ _) (round_any (S) (T2) (T3) (N) (R0) w23 (iS.out) (i2.out) (i3.out) (iN.out) (O) (D) (B) (0) h3) rfl fun w25 hM => wl_fare kn ?_)
  simp (config := { maxSteps := 10000000 }) (disch := omega) only [fx, pv, kx]
  refine wl_give rfl (g_alloc 23 (smc (0) (0) (0)) zeroSm fun w26 t_ b_ => ?_)
  replace hM := hM.new t_ b_
  clear t_ b_
  try simp only [nz]
  refine wl_give rfl (g_store_all 23 _ _ (w25.heap.size) (smc (O) (D) (B)) _ 23 rfl rfl (hM.get 0 rfl) (szSm _ _ _) (rfl) (one_smc _ _ _) fun w27 t_ b_ => ?_)
  replace hM : Ms w w27 [blk (w25.heap.size) (smc (O) (D) (B)) 23, blk (w17.heap.size) (Wd.cl (P) (S) (0)) 36] := hM.put 0 rfl t_ b_
  clear t_ b_
  refine wl_fare kn ?_
  simp (disch := omega) only [fx, pv, kx]
  refine wl_nil (κ24 _ _ ?_)
  refine wp_seq_k fun _ κ28 => wp_seq_k fun _ κ29 => wl_region (wl_fare kn ?_)
  simp (config := { maxSteps := 10000000 }) (disch := omega) only [fx, pv, kx]
  refine wl_nil (κ29 _ _ ?_)
  refine wp_cond_false rfl (wp_skip ?_)
  refine κ28 _ _ (wp_seq_k fun _ κ30 => ?_)
  refine wp_seq_k fun _ κ31 => wl_region (wl_fare kn ?_)
  simp (config := { maxSteps := 10000000 }) (disch := omega) only [fx, pv, kx]
  refine wl_nil (κ31 _ _ ?_)
  refine wp_cond_false rfl (wp_skip ?_)
  refine κ30 _ _ (wp_seq_k fun _ κ32 => ?_)
  refine wl_region (wl_fare kn ?_)
  simp (config := { maxSteps := 10000000 }) (disch := omega) only [fx, pv, kx, (k1.out : IntKind.i64.wrap ((T4) - (N)) = K), (hM.get 0 rfl).cell 0 (.int .i64 (O)) rfl, (k2.out : IntKind.i64.wrap ((K) - (O)) = G)]
  refine wl_nil (κ32 _ _ ?_)
  refine wp_seq_k fun _ κ33 => ?_
  refine wl_text (C := fun wx => Ms w wx [blk (w25.heap.size) (smc (O) (D) (B)) 23, blk (w17.heap.size) (Wd.cl (P) (S) (0)) 36]) (by kernel_rfl) [.int .i64 (G), .pointer (some ⟨w25.heap.size, 2, none⟩), .int .i64 (B), .bool true, .bool true, .int .i64 (G), .int .i64 (J), .pointer (some ⟨w25.heap.size, 2, none⟩), .int .i64 (B), .bool true, .bool true, .bool true] (by rfl) hM (by simp only [fullL, Act.put, st_a, st_s, st_0]; exact ⟨mvL rfl rfl, faL rfl rfl (fun _ => faSm2 _ _ _), fun _ hM => gw rfl (g_ld1 2 _ (w25.heap.size) (2) _ rfl (ld2 _ _ _ _ ((hM.get 0 rfl).cell (2) _ (rfl))) ⟨rfl, hM⟩), fun _ hM => gw rfl (g_ileq 2 _ _ .i64 (G) (B) true rfl rfl (decide_eq_true k4) ⟨rfl, hM⟩), mvL rfl rfl, mvL rfl rfl, fun _ hM => gw rfl (g_ineg 2 _ (G) (J) rfl k3.out ⟨rfl, hM⟩), faL rfl rfl (fun _ => faSm2 _ _ _), fun _ hM => gw rfl (g_ld1 2 _ (w25.heap.size) (2) _ rfl (ld2 _ _ _ _ ((hM.get 0 rfl).cell (2) _ (rfl))) ⟨rfl, hM⟩), fun _ hM => gw rfl (g_ileq 2 _ _ .i64 (J) (B) true rfl rfl (decide_eq_true k5) ⟨rfl, hM⟩), ptL rfl rfl rfl, asL rfl rfl, trivial⟩) ?_
  simp only [fullL, Act.put, st_a, st_s, st_0]
  intro w34 hM
  refine κ33 _ _ (wp_ret ?_)
  go_ret
  exact ⟨rfl, hM.below⟩
set_option maxHeartbeats 8000000 in
theorem walk_zero3 (a s x y z u r : Int) (w : World) (hT : Tabs w) (P X Y Z S R0 T2 T3 T4 R W N : Int) (e1 : Shut (a.tmod 1152921504606846976 = P)) (e2 : Shut (x.tmod 1099511627776 = X)) (e3 : Shut (y.tmod 1099511627776 = Y)) (e4 : Shut (z.tmod 1099511627776 = Z)) (e5 : Shut (s.tmod 1152921504606846976 = S)) (e6 : Shut (r.tmod 100000001 = R0)) (c2 : Shut (IntKind.i64.wrap X = X)) (c3 : Shut (IntKind.i64.wrap Y = Y)) (c4 : Shut (IntKind.i64.wrap Z = Z)) (s1 : Shut (IntKind.i64.wrap (P + X) = T2)) (s2 : Shut (IntKind.i64.wrap (T2 + Y) = T3)) (s3 : Shut (IntKind.i64.wrap (T3 + Z) = T4)) (iP : Shut (Wd.In64 P)) (i2 : Shut (Wd.In64 T2)) (i3 : Shut (Wd.In64 T3)) (i4 : Shut (Wd.In64 T4)) (iS : Shut (Wd.In64 S)) (iW : Shut (Wd.In64 0)) (iN : Shut (Wd.In64 N)) (oW : Shut (Wd.Ok 0)) (h1 : Shut (Wd.rd P S 0 P = (S, 0))) (h2 : Shut (Wd.rd P S 0 T4 = (N, 0))) (n0 : ¬ R0 < 0) (n2 : ¬ 0 < R0) (h3 : Shut (vrd S T2 T3 N R0 = ((0, 0, 0), 3))) : Calls Tryd.prog 4 #[.int .i64 a, .int .i64 s, .int .u64 x, .int .u64 y, .int .u64 z, .int .i64 u, .int .i64 r] w fun e w' => e = .returned (.bool true) ∧ Below w.heap.size w w' := by
  have hM := Ms.refl w
  go_enter Tryd.func4, Tryd.ntmps4
  refine wp_seq_k fun _ κ1 => wl_region (wl_fare kn ?_)
  simp (disch := omega) only [fx, pv, kx]
  refine wl_nil (κ1 _ _ ?_)
  refine wp_seq_k fun _ κ2 => wp_seq_k fun _ κ3 => wl_region (wl_give rfl (g_cM hM (kf10 _ _) (awake_any w (hM.tabs hT)) rfl ?_))
  intro w4 hM
  refine wl_fare kn ?_
  simp (disch := omega) only [fx, pv, kx]
  refine wl_nil (κ3 _ _ ?_)
  refine wp_cond_false rfl (wp_skip ?_)
  refine κ2 _ _ (wp_seq_k fun _ κ5 => ?_)
  refine wl_region (wl_fare kn ?_)
  simp (disch := omega) only [fx, pv, kx]
  refine wl_give rfl (g_irem 2 _ _ .i64 (r) (100000001) (R0) rfl rfl (by decide) e6.out ?_)
  refine wl_fare kn ?_
  simp (disch := omega) only [fx, pv, kx]
  refine wl_nil (κ5 _ _ ?_)
  refine wp_seq_k fun _ κ6 => wp_seq_k fun _ κ7 => wl_region (wl_fare kn ?_)
  simp (config := { maxSteps := 10000000 }) (disch := omega) only [fx, pv, kx]
  refine wl_nil (κ7 _ _ ?_)
  refine wp_cond_false rfl (wp_skip ?_)
  refine κ6 _ _ (wp_seq_k fun _ κ8 => ?_)
  refine wl_region (wl_fare kn ?_)
  simp (disch := omega) only [fx, pv, kx]
  refine wl_nil (κ8 _ _ ?_)
  refine wp_seq_k fun _ κ9 => wp_seq_k fun _ κ10 => wl_region (wl_fare kn ?_)
  simp (config := { maxSteps := 10000000 }) (disch := omega) only [fx, pv, kx]
  refine wl_nil (κ10 _ _ ?_)
  refine wp_cond_false rfl (wp_skip ?_)
  refine κ9 _ _ (wp_seq_k fun _ κ11 => ?_)
  refine wl_region (wl_fare kn ?_)
  simp (disch := omega) only [fx, pv, kx]
  refine wl_nil (κ11 _ _ ?_)
  refine wp_seq_k fun _ κ12 => wl_region (wl_fare kn ?_)
  simp (disch := omega) only [fx, pv, kx]
  refine wl_give rfl (g_irem 2 _ _ .i64 (a) (1152921504606846976) (P) rfl rfl (by decide) e1.out ?_)
  refine wl_fare kn ?_
  simp (disch := omega) only [fx, pv, kx]
  refine wl_nil (κ12 _ _ ?_)
  refine wp_seq_k fun _ κ13 => wl_region (wl_fare kn ?_)
  simp (config := { maxSteps := 10000000 }) (disch := omega) only [fx, pv, kx]
  refine wl_give rfl (g_irem 34 _ _ .u64 (x) (1099511627776) (X) rfl rfl (by decide) e2.out ?_)
  try simp only [nz]
  refine wl_give rfl (g_cvU2 _ (X) (X) rfl (c2.out) ?_)
  refine wl_fare kn ?_
  simp (config := { maxSteps := 10000000 }) (disch := omega) only [fx, pv, kx, (s1.out : IntKind.i64.wrap ((P) + (X)) = T2)]
  refine wl_nil (κ13 _ _ ?_)
  refine wp_seq_k fun _ κ14 => wl_region (wl_fare kn ?_)
  simp (config := { maxSteps := 10000000 }) (disch := omega) only [fx, pv, kx]
  refine wl_give rfl (g_irem 34 _ _ .u64 (y) (1099511627776) (Y) rfl rfl (by decide) e3.out ?_)
  try simp only [nz]
  refine wl_give rfl (g_cvU2 _ (Y) (Y) rfl (c3.out) ?_)
  refine wl_fare kn ?_
  simp (config := { maxSteps := 10000000 }) (disch := omega) only [fx, pv, kx, (s2.out : IntKind.i64.wrap ((T2) + (Y)) = T3)]
  refine wl_nil (κ14 _ _ ?_)
  refine wp_seq_k fun _ κ15 => wl_region (wl_fare kn ?_)
  simp (config := { maxSteps := 10000000 }) (disch := omega) only [fx, pv, kx]
  refine wl_give rfl (g_irem 34 _ _ .u64 (z) (1099511627776) (Z) rfl rfl (by decide) e4.out ?_)
  try simp only [nz]
  refine wl_give rfl (g_cvU2 _ (Z) (Z) rfl (c4.out) ?_)
  refine wl_fare kn ?_
  simp (config := { maxSteps := 10000000 }) (disch := omega) only [fx, pv, kx, (s3.out : IntKind.i64.wrap ((T3) + (Z)) = T4)]
  refine wl_nil (κ15 _ _ ?_)
  refine wp_seq_k fun _ κ16 => wl_region (wl_fare kn ?_)
  simp (config := { maxSteps := 10000000 }) (disch := omega) only [fx, pv, kx]
  refine wl_give rfl (g_irem 2 _ _ .i64 (s) (1152921504606846976) (S) rfl rfl (by decide) e5.out ?_)
  refine wl_fare kn ?_
  simp (disch := omega) only [fx, pv, kx]
  refine wl_give rfl (g_cM hM (kf15 _ _) (Wd.new_good P S (0) w4 oW.out) rfl fun w17 hM => wl_fare kn ?_)
  simp (config := { maxSteps := 10000000 }) (disch := omega) only [fx, pv, kx]
  refine wl_give rfl (g_alloc 36 (Wd.cl (0) (0) (0)) Wd.zeroC fun w18 t_ b_ => ?_)
  replace hM := hM.new t_ b_
  clear t_ b_
  try simp only [nz]
  refine wl_give rfl (g_store_all 36 _ _ (w17.heap.size) (Wd.cl (P) (S) (0)) _ 36 rfl rfl (hM.get 0 rfl) (Wd.szC _ _ _) (rfl) (Wd.one_cl _ _ _) fun w19 t_ b_ => ?_)
  replace hM : Ms w w19 [blk (w17.heap.size) (Wd.cl (P) (S) (0)) 36] := hM.put 0 rfl t_ b_
  clear t_ b_
  refine wl_fare kn ?_
  simp (disch := omega) only [fx, pv, kx]
  refine wl_nil (κ16 _ _ ?_)
  refine wp_seq_k fun _ κ20 => wl_region (wl_give rfl (g_load_all 36 _ (w17.heap.size) (Wd.cl (P) (S) (0)) 36 _ rfl (hM.get 0 rfl) Tryd.underlying36 rfl (Wd.szC _ _ _) ?_))
  refine wl_fare kn ?_
  simp (disch := omega) only [fx, pv, kx]
  refine wl_give rfl (g_cM hM (kf16 _ _) (Wd.read_any P S (0) (P) (S) 0 w19 iP.out iS.out iW.out iP.out h1.out) rfl fun w21 hM => wl_fare kn ?_)
  simp (config := { maxSteps := 10000000 }) (disch := omega) only [fx, pv, kx]
  refine wl_nil (κ20 _ _ ?_)
  refine wp_seq_k fun _ κ22 => wl_region (wl_give rfl (g_load_all 36 _ (w17.heap.size) (Wd.cl (P) (S) (0)) 36 _ rfl (hM.get 0 rfl) Tryd.underlying36 rfl (Wd.szC _ _ _) ?_))
  refine wl_fare kn ?_
  simp (disch := omega) only [fx, pv, kx]
  refine wl_give rfl (g_cM hM (kf16 _ _) (Wd.read_any P S (0) (T4) (N) 0 w21 iP.out iS.out iW.out i4.out h2.out) rfl fun w23 hM => wl_fare kn ?_)
  simp (config := { maxSteps := 10000000 }) (disch := omega) only [fx, pv, kx]
  refine wl_nil (κ22 _ _ ?_)
  refine wp_seq_k fun _ κ24 => wl_region (wl_fare kn ?_)
  simp (config := { maxSteps := 10000000 }) (disch := omega) only [fx, pv, kx]
  refine wl_give rfl (g_cM hM (kf11 _ _) (round_any (S) (T2) (T3) (N) (R0) w23 (iS.out) (i2.out) (i3.out) (iN.out) (0) (0) (0) (3) h3) rfl fun w25 hM => wl_fare kn ?_)
  simp (config := { maxSteps := 10000000 }) (disch := omega) only [fx, pv, kx]
  refine wl_give rfl (g_alloc 23 (smc (0) (0) (0)) zeroSm fun w26 t_ b_ => ?_)
  replace hM := hM.new t_ b_
  clear t_ b_
  try simp only [nz]
  refine wl_give rfl (g_store_all 23 _ _ (w25.heap.size) (smc (0) (0) (0)) _ 23 rfl rfl (hM.get 0 rfl) (szSm _ _ _) (rfl) (one_smc _ _ _) fun w27 t_ b_ => ?_)
  replace hM : Ms w w27 [blk (w25.heap.size) (smc (0) (0) (0)) 23, blk (w17.heap.size) (Wd.cl (P) (S) (0)) 36] := hM.put 0 rfl t_ b_
  clear t_ b_
  refine wl_fare kn ?_
  simp (disch := omega) only [fx, pv, kx]
  refine wl_nil (κ24 _ _ ?_)
  refine wp_seq_k fun _ κ28 => wp_seq_k fun _ κ29 => wl_region (wl_fare kn ?_)
  simp (config := { maxSteps := 10000000 }) (disch := omega) only [fx, pv, kx]
  refine wl_nil (κ29 _ _ ?_)
  refine wp_cond_false rfl (wp_skip ?_)
  refine κ28 _ _ (wp_seq_k fun _ κ30 => ?_)
  refine wp_seq_k fun _ κ31 => wl_region (wl_fare kn ?_)
  simp (config := { maxSteps := 10000000 }) (disch := omega) only [fx, pv, kx]
  refine wl_nil (κ31 _ _ ?_)
  refine wp_cond_true rfl (wp_seq_k fun _ κ32 => ?_)
  refine wl_text (C := fun wx => Ms w wx [blk (w25.heap.size) (smc (0) (0) (0)) 23, blk (w17.heap.size) (Wd.cl (P) (S) (0)) 36]) (by kernel_rfl) [.int .i64 (3), .bool true, .bool true, .agg (smc (0) (0) (0)).toArray, .agg (smc (0) (0) (0)).toArray, .bool true, .bool true, .bool true] (by rfl) hM (by simp only [fullL, Act.put, st_a, st_s, st_0]; exact ⟨mvL rfl rfl, fun _ hM => gw rfl (g_ieq 25 _ _ .i64 (3) (3) true rfl rfl (by decide) ⟨rfl, hM⟩), mvL rfl rfl, fun _ hM => gw rfl (g_load_all 23 _ (w25.heap.size) (smc (0) (0) (0)) 23 _ rfl (hM.get 0 rfl) Tryd.underlying23 rfl (szSm _ _ _) ⟨rfl, hM⟩), fun _ hM => gw rfl (g_bldSm_n   ⟨rfl, hM⟩), fun _ hM => gw rfl (g_eqlSm _ _ (0) (0) (0) (0) (0) (0) true rfl rfl (decide_eq_true ⟨rfl, rfl, rfl⟩) ⟨rfl, hM⟩), ptL rfl rfl rfl, asL rfl rfl, trivial⟩) ?_
  simp only [fullL, Act.put, st_a, st_s, st_0]
  intro w33 hM
  refine κ32 _ _ (wp_ret ?_)
  go_ret
  exact ⟨rfl, hM.below⟩
theorem clock_num (T m p f : Int) (hT : 0 ≤ T) (hm : 0 ≤ m) (h1 : -m ≤ p) (h2 : p ≤ m) (h3 : 10 * m ≤ 1000000000 * T) (hf : p / 1000000000 = f) : 0 ≤ T + f ∧ T + f ≤ 2 * T + 1 := by omega
theorem bound_num (A Y Z m p f q c : Int) (hA : 0 ≤ A) (hY : 0 ≤ Y) (hZ : 0 ≤ Z) (hm : 0 ≤ m) (h1 : -m ≤ p) (hf : p / 1000000000 = f) (hd : 0 ≤ A + Z + f) (hq : 2 * m ≤ q ∨ (2 * m + 200000000 * f ≤ q ∧ f < 0)) (hc : (q + 999999999) / 1000000000 = c) (x O : Int) (hO : x / 2 = O) (t : Int) (ht : 2 * t - x = Z - A - f) : t - O ≤ (A + Z + f + 1) / 2 + c + 2 ∧ -(t - O) ≤ (A + Z + f + 1) / 2 + c + 2 := by omega
theorem mul_bnd (T W r : Int) (hT : 0 ≤ T) (h1 : -r ≤ W) (h2 : W ≤ r) : -(T * r) ≤ T * W ∧ T * W ≤ T * r := by
  refine ⟨?_, Int.mul_le_mul_of_nonneg_left h2 hT⟩
  have h := Int.mul_le_mul_of_nonneg_left h1 hT
  rw [Int.mul_neg] at h
  exact h
theorem prod_num (T r f : Int) (hT : 0 ≤ T) (h0 : 0 ≤ r) (h1 : r ≤ 100000000) : 2 * (T * r) ≤ (T + f) * (2 * r) ∨ (2 * (T * r) + 200000000 * f ≤ (T + f) * (2 * r) ∧ f < 0) := by
  have e : (T + f) * (2 * r) = 2 * (T * r) + 2 * (f * r) := by
    rw [Int.add_mul, Int.mul_left_comm, Int.mul_left_comm f]
  rw [e]
  rcases Int.lt_or_le f 0 with h | h
  · right
    have h2 : (-f) * r ≤ (-f) * 100000000 := Int.mul_le_mul_of_nonneg_left h1 (by omega)
    rw [Int.neg_mul] at h2
    omega
  · left
    have h2 : 0 ≤ f * r := Int.mul_nonneg h h0
    omega
structure Nums (P X Y Z S R W N O D B E : Int) : Prop where
  r1 : Wd.rd P S W P = (S, 0)
  r2 : Wd.rd P S W (P + X + Y + Z) = (N, 0)
  n : Wd.In64 N
  v : vrd S (P + X) (P + X + Y) N R = ((O, D, B), E)
  e : (E = 3 ∧ O = 0 ∧ D = 0 ∧ B = 0) ∨ (E = 0 ∧ -9223372036854775808 ≤ P + X + Y + Z - N ∧ P + X + Y + Z - N < 9223372036854775808 ∧ -9223372036854775808 < P + X + Y + Z - N - O ∧ P + X + Y + Z - N - O < 9223372036854775808 ∧ P + X + Y + Z - N - O ≤ B ∧ -(P + X + Y + Z - N - O) ≤ B)
set_option maxHeartbeats 8000000 in
theorem nums (P X Y Z S R W : Int) (gP : -1152921504606846976 < P ∧ P < 1152921504606846976) (gX : 0 ≤ X ∧ X < 1099511627776) (gY : 0 ≤ Y ∧ Y < 1099511627776) (gZ : 0 ≤ Z ∧ Z < 1099511627776) (gS : -1152921504606846976 < S ∧ S < 1152921504606846976) (gR : 0 ≤ R ∧ R ≤ 100000000) (gW : -R ≤ W ∧ W ≤ R) : ∃ N O D B E : Int, Nums P X Y Z S R W N O D B E := by
  obtain ⟨T, hT⟩ : ∃ T, X + Y + Z = T := ⟨_, rfl⟩
  have hT0 : 0 ≤ T := by omega
  obtain ⟨m, hm⟩ : ∃ m, T * R = m := ⟨_, rfl⟩
  obtain ⟨p, hp⟩ : ∃ p, T * W = p := ⟨_, rfl⟩
  obtain ⟨f, hf⟩ : ∃ f, p / 1000000000 = f := ⟨_, rfl⟩
  have hb := mul_bnd T W R hT0 gW.1 gW.2
  rw [hm, hp] at hb
  have hm0 : 0 ≤ m := hm ▸ Int.mul_nonneg hT0 gR.1
  have hm1 : m ≤ T * 100000000 := hm ▸ Int.mul_le_mul_of_nonneg_left gR.2 hT0
  have hc := clock_num T m p f hT0 hm0 hb.1 hb.2 (by omega) hf
  obtain ⟨N, hN⟩ : ∃ N, S + T + f = N := ⟨_, rfl⟩
  have rN : Wd.rd P S W (P + X + Y + Z) = (N, 0) := by
    unfold Wd.rd
    rw [if_neg (by omega), if_pos (by omega), Wd.wh_in]
    · unfold Wd.shw
      rw [show P + X + Y + Z - P = T by omega, hp, hf, hN]
    · unfold Wd.shw
      rw [show P + X + Y + Z - P = T by omega, hp, hf, hN]
      exact ⟨by omega, by omega⟩
  have r0 : Wd.rd P S W P = (S, 0) := by
    unfold Wd.rd
    have e : Wd.shw P S W P = S := by
      unfold Wd.shw
      rw [Int.sub_self, Int.zero_mul]
      omega
    rw [if_neg (by omega), if_pos (by omega), e, Wd.wh_in]
    exact ⟨by omega, by omega⟩
  have nN : Wd.In64 N := ⟨by omega, by omega⟩
  have ok : rOk S (P + X) (P + X + Y) N R := ⟨gR, by omega, by omega⟩
  by_cases hd : X + Z + f < 0
  · refine ⟨N, 0, 0, 0, 3, r0, rN, nN, ?_, .inl ⟨rfl, rfl, rfl, rfl⟩⟩
    unfold vrd In64
    rw [if_neg (fun h => h ok), if_neg (by omega), if_pos (by omega)]
  · obtain ⟨x, hx⟩ : ∃ x, P + X - S + (P + X + Y - N) = x := ⟨_, rfl⟩
    obtain ⟨O, hO⟩ : ∃ O, x / 2 = O := ⟨_, rfl⟩
    obtain ⟨q, hq⟩ : ∃ q, (T + f) * (2 * R) = q := ⟨_, rfl⟩
    obtain ⟨c, hcc⟩ : ∃ c, (q + 999999999) / 1000000000 = c := ⟨_, rfl⟩
    have hq1 := prod_num T R f hT0 gR.1 gR.2
    rw [hm, hq] at hq1
    have hb2 := bound_num X Y Z m p f q c gX.1 gY.1 gZ.1 hm0 hb.1 hf (by omega) hq1 hcc x O hO (P + X + Y + Z - N) (by omega)
    refine ⟨N, O, X + Z + f, (X + Z + f + 1) / 2 + c + 2, 0, r0, rN, nN, ?_, .inr ⟨rfl, by omega, by omega, by omega, by omega, hb2.1, hb2.2⟩⟩
    unfold vrd In64
    rw [if_neg (fun h => h ok), if_neg (by omega), if_neg (by omega), show N - S - (P + X + Y - (P + X)) = X + Z + f by omega, show N - S = T + f by omega, hq, hcc, hx, hO]
set_option maxHeartbeats 8000000 in
theorem walk (a s x y z u r : Int) (w : World) (hT : Tabs w) (b1 : -9223372036854775808 ≤ a ∧ a < 9223372036854775808) (b2 : -9223372036854775808 ≤ s ∧ s < 9223372036854775808) (b3 : 0 ≤ x ∧ x < 18446744073709551616) (b4 : 0 ≤ y ∧ y < 18446744073709551616) (b5 : 0 ≤ z ∧ z < 18446744073709551616) (b6 : -9223372036854775808 ≤ u ∧ u < 9223372036854775808) (b7 : -9223372036854775808 ≤ r ∧ r < 9223372036854775808) : Calls Tryd.prog 4 #[.int .i64 a, .int .i64 s, .int .u64 x, .int .u64 y, .int .u64 z, .int .i64 u, .int .i64 r] w fun e w' => e = .returned (.bool true) ∧ Below w.heap.size w w' := by
  have g1 := tmod_lt a 1152921504606846976 (by decide)
  have g5 := tmod_lt s 1152921504606846976 (by decide)
  have g2 := tmod_nn x 1099511627776 (by decide) b3.1
  have g3 := tmod_nn y 1099511627776 (by decide) b4.1
  have g4 := tmod_nn z 1099511627776 (by decide) b5.1
  have g6 := tmod_lt r 100000001 (by decide)
  obtain ⟨P, e1⟩ : ∃ P, a.tmod 1152921504606846976 = P := ⟨_, rfl⟩
  obtain ⟨S, e5⟩ : ∃ S, s.tmod 1152921504606846976 = S := ⟨_, rfl⟩
  obtain ⟨X, e2⟩ : ∃ X, x.tmod 1099511627776 = X := ⟨_, rfl⟩
  obtain ⟨Y, e3⟩ : ∃ Y, y.tmod 1099511627776 = Y := ⟨_, rfl⟩
  obtain ⟨Z, e4⟩ : ∃ Z, z.tmod 1099511627776 = Z := ⟨_, rfl⟩
  obtain ⟨R0, e6⟩ : ∃ R0, r.tmod 100000001 = R0 := ⟨_, rfl⟩
  rw [e1] at g1
  rw [e2] at g2
  rw [e3] at g3
  rw [e4] at g4
  rw [e5] at g5
  rw [e6] at g6
  have c2 := wrap_id X (by omega) (by omega)
  have c3 := wrap_id Y (by omega) (by omega)
  have c4 := wrap_id Z (by omega) (by omega)
  have s1 := wrap_id (P + X) (by omega) (by omega)
  have s2 := wrap_id (P + X + Y) (by omega) (by omega)
  have s3 := wrap_id (P + X + Y + Z) (by omega) (by omega)
  have iP : Wd.In64 P := ⟨by omega, by omega⟩
  have i2 : Wd.In64 (P + X) := ⟨by omega, by omega⟩
  have i3 : Wd.In64 (P + X + Y) := ⟨by omega, by omega⟩
  have i4 : Wd.In64 (P + X + Y + Z) := ⟨by omega, by omega⟩
  have iS : Wd.In64 S := ⟨by omega, by omega⟩
  have some_w : ∀ R : Int, 0 < R → R ≤ 100000000 → ∃ W, u.tmod (R + 1) = W ∧ -R ≤ W ∧ W ≤ R := fun R h0 h1 => by
    have h := tmod_lt u (R + 1) (by omega)
    exact ⟨_, rfl, by omega, by omega⟩
  by_cases n0 : R0 < 0
  · obtain ⟨W, hW, w1, w2⟩ := some_w (-R0) (by omega) (by omega)
    obtain ⟨N, O, D, B, E, h⟩ := nums P X Y Z S (-R0) W g1 g2 g3 g4 g5 ⟨by omega, by omega⟩ ⟨w1, w2⟩
    have k := h.e
    have hv := h.v
    rcases k with ⟨rfl, rfl, rfl, rfl⟩ | ⟨rfl, q1, q2, q3, q4, q5, q6⟩
    · exact walk_neg3 a s x y z u r w hT P X Y Z S R0 (P + X) (P + X + Y) (P + X + Y + Z) (-R0) W N ⟨e1⟩ ⟨e2⟩ ⟨e3⟩ ⟨e4⟩ ⟨e5⟩ ⟨e6⟩ ⟨c2⟩ ⟨c3⟩ ⟨c4⟩ ⟨s1⟩ ⟨s2⟩ ⟨s3⟩ ⟨iP⟩ ⟨i2⟩ ⟨i3⟩ ⟨i4⟩ ⟨iS⟩ ⟨⟨by omega, by omega⟩⟩ ⟨h.n⟩ ⟨⟨by omega, by omega⟩⟩ ⟨h.r1⟩ ⟨h.r2⟩ n0 ⟨wrap_id _ (by omega) (by omega)⟩ (by omega) (-R0 + 1) ⟨wrap_id _ (by omega) (by omega)⟩ ⟨hW⟩ (by omega) ⟨hv⟩
    · exact walk_neg0 a s x y z u r w hT P X Y Z S R0 (P + X) (P + X + Y) (P + X + Y + Z) (-R0) W N ⟨e1⟩ ⟨e2⟩ ⟨e3⟩ ⟨e4⟩ ⟨e5⟩ ⟨e6⟩ ⟨c2⟩ ⟨c3⟩ ⟨c4⟩ ⟨s1⟩ ⟨s2⟩ ⟨s3⟩ ⟨iP⟩ ⟨i2⟩ ⟨i3⟩ ⟨i4⟩ ⟨iS⟩ ⟨⟨by omega, by omega⟩⟩ ⟨h.n⟩ ⟨⟨by omega, by omega⟩⟩ ⟨h.r1⟩ ⟨h.r2⟩ n0 ⟨wrap_id _ (by omega) (by omega)⟩ (by omega) (-R0 + 1) ⟨wrap_id _ (by omega) (by omega)⟩ ⟨hW⟩ (by omega) O D B _ _ _ ⟨wrap_id _ (by omega) (by omega)⟩ ⟨wrap_id _ (by omega) (by omega)⟩ ⟨wrap_id _ (by omega) (by omega)⟩ q5 q6 ⟨hv⟩
  by_cases n2 : 0 < R0
  · obtain ⟨W, hW, w1, w2⟩ := some_w R0 (by omega) (by omega)
    obtain ⟨N, O, D, B, E, h⟩ := nums P X Y Z S R0 W g1 g2 g3 g4 g5 ⟨by omega, by omega⟩ ⟨w1, w2⟩
    have k := h.e
    have hv := h.v
    rcases k with ⟨rfl, rfl, rfl, rfl⟩ | ⟨rfl, q1, q2, q3, q4, q5, q6⟩
    · exact walk_pos3 a s x y z u r w hT P X Y Z S R0 (P + X) (P + X + Y) (P + X + Y + Z) R0 W N ⟨e1⟩ ⟨e2⟩ ⟨e3⟩ ⟨e4⟩ ⟨e5⟩ ⟨e6⟩ ⟨c2⟩ ⟨c3⟩ ⟨c4⟩ ⟨s1⟩ ⟨s2⟩ ⟨s3⟩ ⟨iP⟩ ⟨i2⟩ ⟨i3⟩ ⟨i4⟩ ⟨iS⟩ ⟨⟨by omega, by omega⟩⟩ ⟨h.n⟩ ⟨⟨by omega, by omega⟩⟩ ⟨h.r1⟩ ⟨h.r2⟩ n0 n2 (R0 + 1) ⟨wrap_id _ (by omega) (by omega)⟩ ⟨hW⟩ (by omega) ⟨hv⟩
    · exact walk_pos0 a s x y z u r w hT P X Y Z S R0 (P + X) (P + X + Y) (P + X + Y + Z) R0 W N ⟨e1⟩ ⟨e2⟩ ⟨e3⟩ ⟨e4⟩ ⟨e5⟩ ⟨e6⟩ ⟨c2⟩ ⟨c3⟩ ⟨c4⟩ ⟨s1⟩ ⟨s2⟩ ⟨s3⟩ ⟨iP⟩ ⟨i2⟩ ⟨i3⟩ ⟨i4⟩ ⟨iS⟩ ⟨⟨by omega, by omega⟩⟩ ⟨h.n⟩ ⟨⟨by omega, by omega⟩⟩ ⟨h.r1⟩ ⟨h.r2⟩ n0 n2 (R0 + 1) ⟨wrap_id _ (by omega) (by omega)⟩ ⟨hW⟩ (by omega) O D B _ _ _ ⟨wrap_id _ (by omega) (by omega)⟩ ⟨wrap_id _ (by omega) (by omega)⟩ ⟨wrap_id _ (by omega) (by omega)⟩ q5 q6 ⟨hv⟩
  · obtain ⟨N, O, D, B, E, h⟩ := nums P X Y Z S R0 0 g1 g2 g3 g4 g5 ⟨by omega, by omega⟩ ⟨by omega, by omega⟩
    have k := h.e
    have hv := h.v
    rcases k with ⟨rfl, rfl, rfl, rfl⟩ | ⟨rfl, q1, q2, q3, q4, q5, q6⟩
    · exact walk_zero3 a s x y z u r w hT P X Y Z S R0 (P + X) (P + X + Y) (P + X + Y + Z) R0 0 N ⟨e1⟩ ⟨e2⟩ ⟨e3⟩ ⟨e4⟩ ⟨e5⟩ ⟨e6⟩ ⟨c2⟩ ⟨c3⟩ ⟨c4⟩ ⟨s1⟩ ⟨s2⟩ ⟨s3⟩ ⟨iP⟩ ⟨i2⟩ ⟨i3⟩ ⟨i4⟩ ⟨iS⟩ ⟨⟨by omega, by omega⟩⟩ ⟨h.n⟩ ⟨⟨by omega, by omega⟩⟩ ⟨h.r1⟩ ⟨h.r2⟩ n0 n2 ⟨hv⟩
    · exact walk_zero0 a s x y z u r w hT P X Y Z S R0 (P + X) (P + X + Y) (P + X + Y + Z) R0 0 N ⟨e1⟩ ⟨e2⟩ ⟨e3⟩ ⟨e4⟩ ⟨e5⟩ ⟨e6⟩ ⟨c2⟩ ⟨c3⟩ ⟨c4⟩ ⟨s1⟩ ⟨s2⟩ ⟨s3⟩ ⟨iP⟩ ⟨i2⟩ ⟨i3⟩ ⟨i4⟩ ⟨iS⟩ ⟨⟨by omega, by omega⟩⟩ ⟨h.n⟩ ⟨⟨by omega, by omega⟩⟩ ⟨h.r1⟩ ⟨h.r2⟩ n0 n2 O D B _ _ _ ⟨wrap_id _ (by omega) (by omega)⟩ ⟨wrap_id _ (by omega) (by omega)⟩ ⟨wrap_id _ (by omega) (by omega)⟩ q5 q6 ⟨hv⟩
end Go.Proofs.YtpenicjlpiechaaDoor.volleyBound
