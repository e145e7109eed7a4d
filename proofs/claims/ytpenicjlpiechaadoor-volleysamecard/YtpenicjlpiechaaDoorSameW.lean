/- VolleySame: the walk. -/
import Derived.Test.YtpenicjlpiechaaDoorVoLw
import Derived.WalkKit
import Derived.WalkSpells
import Derived.WalkLawsBesides
namespace Go.Proofs.YtpenicjlpiechaaDoor.volleySame
set_option maxRecDepth 10000
open Go Go.RowKit
set_option linter.unusedVariables false
set_option linter.unusedSimpArgs false

set_option maxHeartbeats 8000000 in
theorem walk_y (t1 t2 x y z r : Int) (w : World) (hT : Tabs w) (P Q X Y Z S D P2 D2 Q2 S2 : Int) (e1 : Shut (t1.tmod 1152921504606846976 = P)) (e2 : Shut (t2.tmod 1152921504606846976 = Q)) (e3 : Shut (x.tmod 288230376151711744 = X)) (e4 : Shut (y.tmod 288230376151711744 = Y)) (e5 : Shut (z.tmod 1152921504606846976 = Z)) (c3 : Shut (IntKind.i64.wrap X = X)) (c4 : Shut (IntKind.i64.wrap Y = Y)) (s1 : Shut (IntKind.i64.wrap (Q + X) = S)) (s2 : Shut (IntKind.i64.wrap (P + Y) = D)) (s3 : Shut (IntKind.i64.wrap (P + Z) = P2)) (s4 : Shut (IntKind.i64.wrap (D + Z) = D2)) (s5 : Shut (IntKind.i64.wrap (Q + Z) = Q2)) (s6 : Shut (IntKind.i64.wrap (S + Z) = S2)) (iP : Shut (Wd.In64 P)) (iQ : Shut (Wd.In64 Q)) (iS : Shut (Wd.In64 S)) (iD : Shut (Wd.In64 D)) (iP2 : Shut (Wd.In64 P2)) (iQ2 : Shut (Wd.In64 Q2)) (iS2 : Shut (Wd.In64 S2)) (iD2 : Shut (Wd.In64 D2)) (O G B O1 O2 : Int) (w1 : Shut (IntKind.i64.wrap (O - Z) = O1)) (w2 : Shut (IntKind.i64.wrap (O + Z) = O2)) (h1 : Shut (vrd P Q S D r = ((O, G, B), 0))) (h2 : Shut (vrd P2 Q S D2 r = ((O1, G, B), 0))) (h3 : Shut (vrd P Q2 S2 D r = ((O2, G, B), 0))) : Calls Tryd.prog 6 #[.int .i64 t1, .int .i64 t2, .int .u64 x, .int .u64 y, .int .i64 z, .int .i64 r] w fun e w' => e = .returned (.bool true) ∧ Below w.heap.size w w' := by
  have hM := Ms.refl w
  go_enter Tryd.func6, Tryd.ntmps6
  refine wp_seq_k fun _ κ1 => wl_region (wl_fare kn ?_)
  simp (disch := omega) only [fx, pv, kx]
  refine wl_nil (κ1 _ _ ?_)
  refine wp_seq_k fun _ κ2 => wp_seq_k fun _ κ3 => wl_region (wl_give rfl (g_cM hM (kf10 _ _) (awake_any w (hM.tabs hT)) rfl ?_))
  intro w4 hM
  refine wl_fare kn ?_
  simp (disch := omega) only [fx, pv, kx]
  refine wl_nil (κ3 _ _ ?_)
  refine wp_cond_false rfl (wp_skip ?_)
  refine κ2 _ _ (wp_seq_k fun _ κ5 => ?_)
  refine wl_region (wl_fare kn ?_)
  simp (disch := omega) only [fx, pv, kx]
  refine wl_nil (κ5 _ _ ?_)
  refine wp_seq_k fun _ κ6 => ?_
  refine wp_region_fixed (by kernel_rfl) (by kernel_rfl) [.int .i64 (t1), .int .i64 (1152921504606846976), .int .i64 (P), .int .i64 (t2), .int .i64 (1152921504606846976), .int .i64 (Q), .int .i64 (P), .int .i64 (Q)] (by rfl) (fun wx => Ms w wx []) hM.drew ?_ ?_
  · simp only [fullL, Act.put, st_a, st_s, st_0]
    refine ⟨?_, ?_, ?_, ?_, ?_, ?_, ?_, ?_, trivial⟩
    · exact mvL rfl rfl
    · exact mvL rfl rfl
    · exact fun wx hM => gw rfl (g_irem 2 _ _ .i64 (t1) (1152921504606846976) (P) rfl rfl (by decide) e1.out ⟨rfl, hM⟩)
    · exact mvL rfl rfl
    · exact mvL rfl rfl
    · exact fun wx hM => gw rfl (g_irem 2 _ _ .i64 (t2) (1152921504606846976) (Q) rfl rfl (by decide) e2.out ⟨rfl, hM⟩)
    · exact asL rfl rfl
    · exact asL rfl rfl
  · simp only [fullL, Act.put, st_a, st_s, st_0]
    intro w7 hM
    refine κ6 _ _ (wp_seq_k fun _ κ8 => ?_)
    refine wl_region (wl_fare kn ?_)
    simp (config := { maxSteps := 10000000 }) (disch := omega) only [fx, pv, kx]
    refine wl_give rfl (g_irem 34 _ _ .u64 (x) (288230376151711744) (X) rfl rfl (by decide) e3.out ?_)
    try simp only [nz]
    refine wl_give rfl (g_cvU2 _ (X) (X) rfl (c3.out) ?_)
    refine wl_fare kn ?_
    simp (config := { maxSteps := 10000000 }) (disch := omega) only [fx, pv, kx, (s1.out : IntKind.i64.wrap ((Q) + (X)) = S)]
    refine wl_nil (κ8 _ _ ?_)
    refine wp_seq_k fun _ κ9 => wl_region (wl_fare kn ?_)
    simp (config := { maxSteps := 10000000 }) (disch := omega) only [fx, pv, kx]
    refine wl_give rfl (g_irem 34 _ _ .u64 (y) (288230376151711744) (Y) rfl rfl (by decide) e4.out ?_)
    try simp only [nz]
    refine wl_give rfl (g_cvU2 _ (Y) (Y) rfl (c4.out) ?_)
    refine wl_fare kn ?_
    simp (config := { maxSteps := 10000000 }) (disch := omega) only [fx, pv, kx, (s2.out : IntKind.i64.wrap ((P) + (Y)) = D)]
    refine wl_nil (κ9 _ _ ?_)
    refine wp_seq_k fun _ κ10 => wl_region (wl_fare kn ?_)
    simp (disch := omega) only [fx, pv, kx]
    refine wl_give rfl (g_irem 2 _ _ .i64 (z) (1152921504606846976) (Z) rfl rfl (by decide) e5.out ?_)
    refine wl_fare kn ?_
    simp (disch := omega) only [fx, pv, kx]
    refine wl_nil (κ10 _ _ ?_)
    refine wp_seq_k fun _ κ11 => wl_region (wl_fare kn ?_)
    simp (config := { maxSteps := 10000000 }) (disch := omega) only [fx, pv, kx]
    refine wl_give rfl (g_cM hM (kf11 _ _) (round_any (P) (Q) (S) (D) (r) w7 (iP.out) (iQ.out) (iS.out) (iD.out) (O) (G) (B) (0) h1) rfl fun w12 hM => wl_fare kn ?_)
    simp (config := { maxSteps := 10000000 }) (disch := omega) only [fx, pv, kx]
    refine wl_give rfl (g_alloc 23 (smc (0) (0) (0)) zeroSm fun w13 t_ b_ => ?_)
    replace hM := hM.new t_ b_
    clear t_ b_
    try simp only [nz]
    refine wl_give rfl (g_store_all 23 _ _ (w12.heap.size) (smc (O) (G) (B)) _ 23 rfl rfl (hM.get 0 rfl) (szSm _ _ _) (rfl) (one_smc _ _ _) fun w14 t_ b_ => ?_)
    replace hM : Ms w w14 [blk (w12.heap.size) (smc (O) (G) (B)) 23] := hM.put 0 rfl t_ b_
    clear t_ b_
    refine wl_fare kn ?_
    simp (disch := omega) only [fx, pv, kx]
    refine wl_nil (κ11 _ _ ?_)
    refine wp_seq_k fun _ κ15 => wl_region (wl_fare kn ?_)
    simp (config := { maxSteps := 10000000 }) (disch := omega) only [fx, pv, kx, (s3.out : IntKind.i64.wrap ((P) + (Z)) = P2), (s4.out : IntKind.i64.wrap ((D) + (Z)) = D2)]
    refine wl_give rfl (g_cM hM (kf11 _ _) (round_any (P2) (Q) (S) (D2) (r) w14 (iP2.out) (iQ.out) (iS.out) (iD2.out) (O1) (G) (B) (0) h2) rfl fun w16 hM => wl_fare kn ?_)
    simp (config := { maxSteps := 10000000 }) (disch := omega) only [fx, pv, kx]
    refine wl_give rfl (g_alloc 23 (smc (0) (0) (0)) zeroSm fun w17 t_ b_ => ?_)
    replace hM := hM.new t_ b_
    clear t_ b_
    try simp only [nz]
    refine wl_give rfl (g_store_all 23 _ _ (w16.heap.size) (smc (O1) (G) (B)) _ 23 rfl rfl (hM.get 0 rfl) (szSm _ _ _) (rfl) (one_smc _ _ _) fun w18 t_ b_ => ?_)
    replace hM : Ms w w18 [blk (w16.heap.size) (smc (O1) (G) (B)) 23, blk (w12.heap.size) (smc (O) (G) (B)) 23] := hM.put 0 rfl t_ b_
    clear t_ b_
    refine wl_fare kn ?_
    simp (disch := omega) only [fx, pv, kx]
    refine wl_nil (κ15 _ _ ?_)
    refine wp_seq_k fun _ κ19 => wl_region (wl_fare kn ?_)
    simp (config := { maxSteps := 10000000 }) (disch := omega) only [fx, pv, kx, (s5.out : IntKind.i64.wrap ((Q) + (Z)) = Q2), (s6.out : IntKind.i64.wrap ((S) + (Z)) = S2)]
    refine wl_give rfl (g_cM hM (kf11 _ _) (round_any (P) (Q2) (S2) (D) (r) w18 (iP.out) (iQ2.out) (iS2.out) (iD.out) (O2) (G) (B) (0) h3) rfl fun w20 hM => wl_fare kn ?_)
    simp (config := { maxSteps := 10000000 }) (disch := omega) only [fx, pv, kx]
    refine wl_give rfl (g_alloc 23 (smc (0) (0) (0)) zeroSm fun w21 t_ b_ => ?_)
    replace hM := hM.new t_ b_
    clear t_ b_
    try simp only [nz]
    refine wl_give rfl (g_store_all 23 _ _ (w20.heap.size) (smc (O2) (G) (B)) _ 23 rfl rfl (hM.get 0 rfl) (szSm _ _ _) (rfl) (one_smc _ _ _) fun w22 t_ b_ => ?_)
    replace hM : Ms w w22 [blk (w20.heap.size) (smc (O2) (G) (B)) 23, blk (w16.heap.size) (smc (O1) (G) (B)) 23, blk (w12.heap.size) (smc (O) (G) (B)) 23] := hM.put 0 rfl t_ b_
    clear t_ b_
    refine wl_fare kn ?_
    simp (disch := omega) only [fx, pv, kx]
    refine wl_nil (κ19 _ _ ?_)
    refine wp_seq_k fun _ κ23 => wp_seq_k fun _ κ24 => wl_region (wl_fare kn ?_)
    simp (config := { maxSteps := 10000000 }) (disch := omega) only [fx, pv, kx]
    refine wl_nil (κ24 _ _ ?_)
    refine wp_cond_false rfl (wp_skip ?_)
    refine κ23 _ _ (wp_seq_k fun _ κ25 => ?_)
    refine wl_text (C := fun wx => Ms w wx [blk (w20.heap.size) (smc (O2) (G) (B)) 23, blk (w16.heap.size) (smc (O1) (G) (B)) 23, blk (w12.heap.size) (smc (O) (G) (B)) 23]) (by kernel_rfl) [.int .i64 (0), .bool false, .bool false, .agg (smc (O1) (G) (B)).toArray, .pointer (some ⟨w12.heap.size, 0, none⟩), .int .i64 (O), .int .i64 (Z), .int .i64 (O1), .pointer (some ⟨w12.heap.size, 1, none⟩), .int .i64 (G), .pointer (some ⟨w12.heap.size, 2, none⟩), .int .i64 (B), .agg (smc (O1) (G) (B)).toArray, .bool true, .bool true, .agg (smc (O2) (G) (B)).toArray, .pointer (some ⟨w12.heap.size, 0, none⟩), .int .i64 (O), .int .i64 (Z), .int .i64 (O2), .pointer (some ⟨w12.heap.size, 1, none⟩), .int .i64 (G), .pointer (some ⟨w12.heap.size, 2, none⟩), .int .i64 (B), .agg (smc (O2) (G) (B)).toArray, .bool true, .bool true, .bool true, .bool true] (by rfl) hM (by simp only [fullL, Act.put, st_a, st_s, st_0]; exact ⟨mvL rfl rfl, fun _ hM => gw rfl (g_ine 25 _ _ .i64 (0) (0) false rfl rfl (decide_eq_false (fun h => h rfl)) ⟨rfl, hM⟩), mvL rfl rfl, fun _ hM => gw rfl (g_load_all 23 _ (w16.heap.size) (smc (O1) (G) (B)) 23 _ rfl (hM.get 1 rfl) Tryd.underlying23 rfl (szSm _ _ _) ⟨rfl, hM⟩), faL rfl rfl (fun _ => faSm0 _ _ _), fun _ hM => gw rfl (g_ld1 2 _ (w12.heap.size) (0) _ rfl (ld2 _ _ _ _ ((hM.get 2 rfl).cell (0) _ (rfl))) ⟨rfl, hM⟩), mvL rfl rfl, fun _ hM => gw rfl (g_isub 2 _ _ .i64 (O) (Z) (O1) rfl rfl w1.out ⟨rfl, hM⟩), faL rfl rfl (fun _ => faSm1 _ _ _), fun _ hM => gw rfl (g_ld1 2 _ (w12.heap.size) (1) _ rfl (ld2 _ _ _ _ ((hM.get 2 rfl).cell (1) _ (rfl))) ⟨rfl, hM⟩), faL rfl rfl (fun _ => faSm2 _ _ _), fun _ hM => gw rfl (g_ld1 2 _ (w12.heap.size) (2) _ rfl (ld2 _ _ _ _ ((hM.get 2 rfl).cell (2) _ (rfl))) ⟨rfl, hM⟩), fun _ hM => gw rfl (g_bldSm_012 _ _ _ (O1) (G) (B) rfl rfl rfl ⟨rfl, hM⟩), fun _ hM => gw rfl (g_eqlSm _ _ (O1) (G) (B) (O1) (G) (B) true rfl rfl (decide_eq_true ⟨rfl, rfl, rfl⟩) ⟨rfl, hM⟩), mvL rfl rfl, fun _ hM => gw rfl (g_load_all 23 _ (w20.heap.size) (smc (O2) (G) (B)) 23 _ rfl (hM.get 0 rfl) Tryd.underlying23 rfl (szSm _ _ _) ⟨rfl, hM⟩), faL rfl rfl (fun _ => faSm0 _ _ _), fun _ hM => gw rfl (g_ld1 2 _ (w12.heap.size) (0) _ rfl (ld2 _ _ _ _ ((hM.get 2 rfl).cell (0) _ (rfl))) ⟨rfl, hM⟩), mvL rfl rfl, fun _ hM => gw rfl (g_ia 2 _ _ .i64 (O) (Z) (O2) rfl rfl w2.out ⟨rfl, hM⟩), faL rfl rfl (fun _ => faSm1 _ _ _), fun _ hM => gw rfl (g_ld1 2 _ (w12.heap.size) (1) _ rfl (ld2 _ _ _ _ ((hM.get 2 rfl).cell (1) _ (rfl))) ⟨rfl, hM⟩), faL rfl rfl (fun _ => faSm2 _ _ _), fun _ hM => gw rfl (g_ld1 2 _ (w12.heap.size) (2) _ rfl (ld2 _ _ _ _ ((hM.get 2 rfl).cell (2) _ (rfl))) ⟨rfl, hM⟩), fun _ hM => gw rfl (g_bldSm_012 _ _ _ (O2) (G) (B) rfl rfl rfl ⟨rfl, hM⟩), fun _ hM => gw rfl (g_eqlSm _ _ (O2) (G) (B) (O2) (G) (B) true rfl rfl (decide_eq_true ⟨rfl, rfl, rfl⟩) ⟨rfl, hM⟩), ptL rfl rfl rfl, pfL rfl rfl rfl, asL rfl rfl, trivial⟩) ?_
    simp only [fullL, Act.put, st_a, st_s, st_0]
    intro w26 hM
    refine κ25 _ _ (wp_ret ?_)
    go_ret
    exact ⟨rfl, hM.below⟩
set_option maxHeartbeats 8000000 in
theorem walk_n (t1 t2 x y z r : Int) (w : World) (hT : Tabs w) (P Q X Y Z S D P2 D2 Q2 S2 : Int) (e1 : Shut (t1.tmod 1152921504606846976 = P)) (e2 : Shut (t2.tmod 1152921504606846976 = Q)) (e3 : Shut (x.tmod 288230376151711744 = X)) (e4 : Shut (y.tmod 288230376151711744 = Y)) (e5 : Shut (z.tmod 1152921504606846976 = Z)) (c3 : Shut (IntKind.i64.wrap X = X)) (c4 : Shut (IntKind.i64.wrap Y = Y)) (s1 : Shut (IntKind.i64.wrap (Q + X) = S)) (s2 : Shut (IntKind.i64.wrap (P + Y) = D)) (s3 : Shut (IntKind.i64.wrap (P + Z) = P2)) (s4 : Shut (IntKind.i64.wrap (D + Z) = D2)) (s5 : Shut (IntKind.i64.wrap (Q + Z) = Q2)) (s6 : Shut (IntKind.i64.wrap (S + Z) = S2)) (iP : Shut (Wd.In64 P)) (iQ : Shut (Wd.In64 Q)) (iS : Shut (Wd.In64 S)) (iD : Shut (Wd.In64 D)) (iP2 : Shut (Wd.In64 P2)) (iQ2 : Shut (Wd.In64 Q2)) (iS2 : Shut (Wd.In64 S2)) (iD2 : Shut (Wd.In64 D2)) (E : Int) (hE : ¬ E = 0) (h1 : Shut (vrd P Q S D r = ((0, 0, 0), E))) (h2 : Shut (vrd P2 Q S D2 r = ((0, 0, 0), E))) (h3 : Shut (vrd P Q2 S2 D r = ((0, 0, 0), E))) : Calls Tryd.prog 6 #[.int .i64 t1, .int .i64 t2, .int .u64 x, .int .u64 y, .int .i64 z, .int .i64 r] w fun e w' => e = .returned (.bool true) ∧ Below w.heap.size w w' := by
  have hM := Ms.refl w
  go_enter Tryd.func6, Tryd.ntmps6
  refine wp_seq_k fun _ κ1 => wl_region (wl_fare kn ?_)
  simp (disch := omega) only [fx, pv, kx]
  refine wl_nil (κ1 _ _ ?_)
  refine wp_seq_k fun _ κ2 => wp_seq_k fun _ κ3 => wl_region (wl_give rfl (g_cM hM (kf10 _ _) (awake_any w (hM.tabs hT)) rfl ?_))
  intro w4 hM
  refine wl_fare kn ?_
  simp (disch := omega) only [fx, pv, kx]
  refine wl_nil (κ3 _ _ ?_)
  refine wp_cond_false rfl (wp_skip ?_)
  refine κ2 _ _ (wp_seq_k fun _ κ5 => ?_)
  refine wl_region (wl_fare kn ?_)
  simp (disch := omega) only [fx, pv, kx]
  refine wl_nil (κ5 _ _ ?_)
  refine wp_seq_k fun _ κ6 => ?_
  refine wp_region_fixed (by kernel_rfl) (by kernel_rfl) [.int .i64 (t1), .int .i64 (1152921504606846976), .int .i64 (P), .int .i64 (t2), .int .i64 (1152921504606846976), .int .i64 (Q), .int .i64 (P), .int .i64 (Q)] (by rfl) (fun wx => Ms w wx []) hM.drew ?_ ?_
  · simp only [fullL, Act.put, st_a, st_s, st_0]
    refine ⟨?_, ?_, ?_, ?_, ?_, ?_, ?_, ?_, trivial⟩
    · exact mvL rfl rfl
    · exact mvL rfl rfl
    · exact fun wx hM => gw rfl (g_irem 2 _ _ .i64 (t1) (1152921504606846976) (P) rfl rfl (by decide) e1.out ⟨rfl, hM⟩)
    · exact mvL rfl rfl
    · exact mvL rfl rfl
    · exact fun wx hM => gw rfl (g_irem 2 _ _ .i64 (t2) (1152921504606846976) (Q) rfl rfl (by decide) e2.out ⟨rfl, hM⟩)
    · exact asL rfl rfl
    · exact asL rfl rfl
  · simp only [fullL, Act.put, st_a, st_s, st_0]
    intro w7 hM
    refine κ6 _ _ (wp_seq_k fun _ κ8 => ?_)
    refine wl_region (wl_fare kn ?_)
    simp (config := { maxSteps := 10000000 }) (disch := omega) only [fx, pv, kx]
    refine wl_give rfl (g_irem 34 _ _ .u64 (x) (288230376151711744) (X) rfl rfl (by decide) e3.out ?_)
    try simp only [nz]
    refine wl_give rfl (g_cvU2 _ (X) (X) rfl (c3.out) ?_)
    refine wl_fare kn ?_
    simp (config := { maxSteps := 10000000 }) (disch := omega) only [fx, pv, kx, (s1.out : IntKind.i64.wrap ((Q) + (X)) = S)]
    refine wl_nil (κ8 _ _ ?_)
    refine wp_seq_k fun _ κ9 => wl_region (wl_fare kn ?_)
    simp (config := { maxSteps := 10000000 }) (disch := omega) only [fx, pv, kx]
    refine wl_give rfl (g_irem 34 _ _ .u64 (y) (288230376151711744) (Y) rfl rfl (by decide) e4.out ?_)
    try simp only [nz]
    refine wl_give rfl (g_cvU2 _ (Y) (Y) rfl (c4.out) ?_)
    refine wl_fare kn ?_
    simp (config := { maxSteps := 10000000 }) (disch := omega) only [fx, pv, kx, (s2.out : IntKind.i64.wrap ((P) + (Y)) = D)]
    refine wl_nil (κ9 _ _ ?_)
    refine wp_seq_k fun _ κ10 => wl_region (wl_fare kn ?_)
    simp (disch := omega) only [fx, pv, kx]
    refine wl_give rfl (g_irem 2 _ _ .i64 (z) (1152921504606846976) (Z) rfl rfl (by decide) e5.out ?_)
    refine wl_fare kn ?_
    simp (disch := omega) only [fx, pv, kx]
    refine wl_nil (κ10 _ _ ?_)
    refine wp_seq_k fun _ κ11 => wl_region (wl_fare kn ?_)
    simp (config := { maxSteps := 10000000 }) (disch := omega) only [fx, pv, kx]
    refine wl_give rfl (g_cM hM (kf11 _ _) (round_any (P) (Q) (S) (D) (r) w7 (iP.out) (iQ.out) (iS.out) (iD.out) (0) (0) (0) (E) h1) rfl fun w12 hM => wl_fare kn ?_)
    simp (config := { maxSteps := 10000000 }) (disch := omega) only [fx, pv, kx]
    refine wl_give rfl (g_alloc 23 (smc (0) (0) (0)) zeroSm fun w13 t_ b_ => ?_)
    replace hM := hM.new t_ b_
    clear t_ b_
    try simp only [nz]
    refine wl_give rfl (g_store_all 23 _ _ (w12.heap.size) (smc (0) (0) (0)) _ 23 rfl rfl (hM.get 0 rfl) (szSm _ _ _) (rfl) (one_smc _ _ _) fun w14 t_ b_ => ?_)
    replace hM : Ms w w14 [blk (w12.heap.size) (smc (0) (0) (0)) 23] := hM.put 0 rfl t_ b_
    clear t_ b_
    refine wl_fare kn ?_
    simp (disch := omega) only [fx, pv, kx]
    refine wl_nil (κ11 _ _ ?_)
    refine wp_seq_k fun _ κ15 => wl_region (wl_fare kn ?_)
    simp (config := { maxSteps := 10000000 }) (disch := omega) only [fx, pv, kx, (s3.out : IntKind.i64.wrap ((P) + (Z)) = P2), (s4.out : IntKind.i64.wrap ((D) + (Z)) = D2)]
    refine wl_give rfl (g_cM hM (kf11 _ _) (round_any (P2) (Q) (S) (D2) (r) w14 (iP2.out) (iQ.out) (iS.out) (iD2.out) (0) (0) (0) (E) h2) rfl fun w16 hM => wl_fare kn ?_)
    simp (config := { maxSteps := 10000000 }) (disch := omega) only [fx, pv, kx]
    refine wl_give rfl (g_alloc 23 (smc (0) (0) (0)) zeroSm fun w17 t_ b_ => ?_)
    replace hM := hM.new t_ b_
    clear t_ b_
    try simp only [nz]
    refine wl_give rfl (g_store_all 23 _ _ (w16.heap.size) (smc (0) (0) (0)) _ 23 rfl rfl (hM.get 0 rfl) (szSm _ _ _) (rfl) (one_smc _ _ _) fun w18 t_ b_ => ?_)
    replace hM : Ms w w18 [blk (w16.heap.size) (smc (0) (0) (0)) 23, blk (w12.heap.size) (smc (0) (0) (0)) 23] := hM.put 0 rfl t_ b_
    clear t_ b_
    refine wl_fare kn ?_
    simp (disch := omega) only [fx, pv, kx]
    refine wl_nil (κ15 _ _ ?_)
    refine wp_seq_k fun _ κ19 => wl_region (wl_fare kn ?_)
    simp (config := { maxSteps := 10000000 }) (disch := omega) only [fx, pv, kx, (s5.out : IntKind.i64.wrap ((Q) + (Z)) = Q2), (s6.out : IntKind.i64.wrap ((S) + (Z)) = S2)]
    refine wl_give rfl (g_cM hM (kf11 _ _) (round_any (P) (Q2) (S2) (D) (r) w18 (iP.out) (iQ2.out) (iS2.out) (iD.out) (0) (0) (0) (E) h3) rfl fun w20 hM => wl_fare kn ?_)
    simp (config := { maxSteps := 10000000 }) (disch := omega) only [fx, pv, kx]
    refine wl_give rfl (g_alloc 23 (smc (0) (0) (0)) zeroSm fun w21 t_ b_ => ?_)
    replace hM := hM.new t_ b_
    clear t_ b_
    try simp only [nz]
    refine wl_give rfl (g_store_all 23 _ _ (w20.heap.size) (smc (0) (0) (0)) _ 23 rfl rfl (hM.get 0 rfl) (szSm _ _ _) (rfl) (one_smc _ _ _) fun w22 t_ b_ => ?_)
    replace hM : Ms w w22 [blk (w20.heap.size) (smc (0) (0) (0)) 23, blk (w16.heap.size) (smc (0) (0) (0)) 23, blk (w12.heap.size) (smc (0) (0) (0)) 23] := hM.put 0 rfl t_ b_
    clear t_ b_
    refine wl_fare kn ?_
    simp (disch := omega) only [fx, pv, kx]
    refine wl_nil (κ19 _ _ ?_)
    refine wp_seq_k fun _ κ23 => wp_seq_k fun _ κ24 => wl_region (wl_fare kn ?_)
    simp (config := { maxSteps := 10000000 }) (disch := omega) only [fx, pv, kx]
    refine wl_nil (κ24 _ _ ?_)
    refine wp_cond_false rfl (wp_skip ?_)
    refine κ23 _ _ (wp_seq_k fun _ κ25 => ?_)
    refine wl_text (C := fun wx => Ms w wx [blk (w20.heap.size) (smc (0) (0) (0)) 23, blk (w16.heap.size) (smc (0) (0) (0)) 23, blk (w12.heap.size) (smc (0) (0) (0)) 23]) (by kernel_rfl) [.int .i64 (E), .bool true, .bool true, undef, undef, undef, undef, undef, undef, undef, undef, undef, undef, undef, undef, undef, undef, undef, undef, undef, undef, undef, undef, undef, undef, undef, undef, .bool true, .bool true] (by rfl) hM (by simp only [fullL, Act.put, st_a, st_s, st_0]; exact ⟨mvL rfl rfl, fun _ hM => gw rfl (g_ine 25 _ _ .i64 (E) (0) true rfl rfl (decide_eq_true hE) ⟨rfl, hM⟩), mvL rfl rfl, skL rfl, skL rfl, skL rfl, skL rfl, skL rfl, skL rfl, skL rfl, skL rfl, skL rfl, skL rfl, skL rfl, skL rfl, skL rfl, skL rfl, skL rfl, skL rfl, skL rfl, skL rfl, skL rfl, skL rfl, skL rfl, skL rfl, skL rfl, skL rfl, ptL rfl rfl rfl, asL rfl rfl, trivial⟩) ?_
    simp only [fullL, Act.put, st_a, st_s, st_0]
    intro w26 hM
    refine κ25 _ _ (wp_ret ?_)
    go_ret
    exact ⟨rfl, hM.below⟩
theorem vrd_far (t1 t2 t3 t4 r : Int) (h : ¬ rOk t1 t2 t3 t4 r) : vrd t1 t2 t3 t4 r = ((0, 0, 0), 1) := by
  unfold vrd
  rw [if_pos h]
set_option maxHeartbeats 8000000 in
theorem walk (t1 t2 x y z r : Int) (w : World) (hT : Tabs w) (b1 : -9223372036854775808 ≤ t1 ∧ t1 < 9223372036854775808) (b2 : -9223372036854775808 ≤ t2 ∧ t2 < 9223372036854775808) (b3 : 0 ≤ x ∧ x < 18446744073709551616) (b4 : 0 ≤ y ∧ y < 18446744073709551616) (b5 : -9223372036854775808 ≤ z ∧ z < 9223372036854775808) (b6 : -9223372036854775808 ≤ r ∧ r < 9223372036854775808) : Calls Tryd.prog 6 #[.int .i64 t1, .int .i64 t2, .int .u64 x, .int .u64 y, .int .i64 z, .int .i64 r] w fun e w' => e = .returned (.bool true) ∧ Below w.heap.size w w' := by
  have g1 := tmod_lt t1 1152921504606846976 (by decide)
  have g2 := tmod_lt t2 1152921504606846976 (by decide)
  have g3 := tmod_nn x 288230376151711744 (by decide) b3.1
  have g4 := tmod_nn y 288230376151711744 (by decide) b4.1
  have g5 := tmod_lt z 1152921504606846976 (by decide)
  obtain ⟨P, e1⟩ : ∃ P, t1.tmod 1152921504606846976 = P := ⟨_, rfl⟩
  obtain ⟨Q, e2⟩ : ∃ Q, t2.tmod 1152921504606846976 = Q := ⟨_, rfl⟩
  obtain ⟨X, e3⟩ : ∃ X, x.tmod 288230376151711744 = X := ⟨_, rfl⟩
  obtain ⟨Y, e4⟩ : ∃ Y, y.tmod 288230376151711744 = Y := ⟨_, rfl⟩
  obtain ⟨Z, e5⟩ : ∃ Z, z.tmod 1152921504606846976 = Z := ⟨_, rfl⟩
  rw [e1] at g1
  rw [e2] at g2
  rw [e3] at g3
  rw [e4] at g4
  rw [e5] at g5
  have c3 := wrap_id X (by omega) (by omega)
  have c4 := wrap_id Y (by omega) (by omega)
  have s1 := wrap_id (Q + X) (by omega) (by omega)
  have s2 := wrap_id (P + Y) (by omega) (by omega)
  have s3 := wrap_id (P + Z) (by omega) (by omega)
  have s4 := wrap_id (P + Y + Z) (by omega) (by omega)
  have s5 := wrap_id (Q + Z) (by omega) (by omega)
  have s6 := wrap_id (Q + X + Z) (by omega) (by omega)
  have iP : Wd.In64 P := ⟨by omega, by omega⟩
  have iQ : Wd.In64 Q := ⟨by omega, by omega⟩
  have iS : Wd.In64 (Q + X) := ⟨by omega, by omega⟩
  have iD : Wd.In64 (P + Y) := ⟨by omega, by omega⟩
  have iP2 : Wd.In64 (P + Z) := ⟨by omega, by omega⟩
  have iQ2 : Wd.In64 (Q + Z) := ⟨by omega, by omega⟩
  have iS2 : Wd.In64 (Q + X + Z) := ⟨by omega, by omega⟩
  have iD2 : Wd.In64 (P + Y + Z) := ⟨by omega, by omega⟩
  by_cases h : rOk P Q (Q + X) (P + Y) r
  · have k2 : rOk (P + Z) Q (Q + X) (P + Y + Z) r := ⟨h.1, by omega, h.2.2⟩
    have k3 : rOk P (Q + Z) (Q + X + Z) (P + Y) r := ⟨h.1, h.2.1, by omega⟩
    by_cases hd : Y < X
    · have v1 : vrd P Q (Q + X) (P + Y) r = ((0, 0, 0), 3) := by
        unfold vrd In64
        rw [if_neg (fun n => n h), if_neg (by omega), if_pos (by omega)]
      have v2 : vrd (P + Z) Q (Q + X) (P + Y + Z) r = ((0, 0, 0), 3) := by
        unfold vrd In64
        rw [if_neg (fun n => n k2), if_neg (by omega), if_pos (by omega)]
      have v3 : vrd P (Q + Z) (Q + X + Z) (P + Y) r = ((0, 0, 0), 3) := by
        unfold vrd In64
        rw [if_neg (fun n => n k3), if_neg (by omega), if_pos (by omega)]
      exact walk_n t1 t2 x y z r w hT P Q X Y Z (Q + X) (P + Y) (P + Z) (P + Y + Z) (Q + Z) (Q + X + Z) ⟨e1⟩ ⟨e2⟩ ⟨e3⟩ ⟨e4⟩ ⟨e5⟩ ⟨c3⟩ ⟨c4⟩ ⟨s1⟩ ⟨s2⟩ ⟨s3⟩ ⟨s4⟩ ⟨s5⟩ ⟨s6⟩ ⟨iP⟩ ⟨iQ⟩ ⟨iS⟩ ⟨iD⟩ ⟨iP2⟩ ⟨iQ2⟩ ⟨iS2⟩ ⟨iD2⟩ 3 (by decide) ⟨v1⟩ ⟨v2⟩ ⟨v3⟩
    · obtain ⟨B, hB⟩ : ∃ B, (Y - X + 1) / 2 + (Y * (2 * r) + 999999999) / 1000000000 + 2 = B := ⟨_, rfl⟩
      obtain ⟨O, hO⟩ : ∃ O, (Q - P + (Q + X - (P + Y))) / 2 = O := ⟨_, rfl⟩
      have v1 : vrd P Q (Q + X) (P + Y) r = ((O, Y - X, B), 0) := by
        unfold vrd In64
        rw [if_neg (fun n => n h), if_neg (by omega), if_neg (by omega), hO, show P + Y - P - (Q + X - Q) = Y - X by omega, show P + Y - P = Y by omega, hB]
      have v2 : vrd (P + Z) Q (Q + X) (P + Y + Z) r = ((O - Z, Y - X, B), 0) := by
        unfold vrd In64
        rw [if_neg (fun n => n k2), if_neg (by omega), if_neg (by omega), show (Q - (P + Z) + (Q + X - (P + Y + Z))) / 2 = O - Z by omega, show P + Y + Z - (P + Z) - (Q + X - Q) = Y - X by omega, show P + Y + Z - (P + Z) = Y by omega, hB]
      have v3 : vrd P (Q + Z) (Q + X + Z) (P + Y) r = ((O + Z, Y - X, B), 0) := by
        unfold vrd In64
        rw [if_neg (fun n => n k3), if_neg (by omega), if_neg (by omega), show (Q + Z - P + (Q + X + Z - (P + Y))) / 2 = O + Z by omega, show P + Y - P - (Q + X + Z - (Q + Z)) = Y - X by omega, show P + Y - P = Y by omega, hB]
      exact walk_y t1 t2 x y z r w hT P Q X Y Z (Q + X) (P + Y) (P + Z) (P + Y + Z) (Q + Z) (Q + X + Z) ⟨e1⟩ ⟨e2⟩ ⟨e3⟩ ⟨e4⟩ ⟨e5⟩ ⟨c3⟩ ⟨c4⟩ ⟨s1⟩ ⟨s2⟩ ⟨s3⟩ ⟨s4⟩ ⟨s5⟩ ⟨s6⟩ ⟨iP⟩ ⟨iQ⟩ ⟨iS⟩ ⟨iD⟩ ⟨iP2⟩ ⟨iQ2⟩ ⟨iS2⟩ ⟨iD2⟩ O (Y - X) B (O - Z) (O + Z) ⟨wrap_id _ (by omega) (by omega)⟩ ⟨wrap_id _ (by omega) (by omega)⟩ ⟨v1⟩ ⟨v2⟩ ⟨v3⟩
  · have k2 : ¬ rOk (P + Z) Q (Q + X) (P + Y + Z) r := fun n => h ⟨n.1, by have := n.2.1; omega, n.2.2⟩
    have k3 : ¬ rOk P (Q + Z) (Q + X + Z) (P + Y) r := fun n => h ⟨n.1, n.2.1, by have := n.2.2; omega⟩
    exact walk_n t1 t2 x y z r w hT P Q X Y Z (Q + X) (P + Y) (P + Z) (P + Y + Z) (Q + Z) (Q + X + Z) ⟨e1⟩ ⟨e2⟩ ⟨e3⟩ ⟨e4⟩ ⟨e5⟩ ⟨c3⟩ ⟨c4⟩ ⟨s1⟩ ⟨s2⟩ ⟨s3⟩ ⟨s4⟩ ⟨s5⟩ ⟨s6⟩ ⟨iP⟩ ⟨iQ⟩ ⟨iS⟩ ⟨iD⟩ ⟨iP2⟩ ⟨iQ2⟩ ⟨iS2⟩ ⟨iD2⟩ 1 (by decide) ⟨vrd_far _ _ _ _ _ h⟩ ⟨vrd_far _ _ _ _ _ k2⟩ ⟨vrd_far _ _ _ _ _ k3⟩
end Go.Proofs.YtpenicjlpiechaaDoor.volleySame
