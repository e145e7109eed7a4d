/- What volley's Round and Within answer. -/
import Derived.Test.YtpenicjlpiechaaDoorQVo1
import Derived.Test.YtpenicjlpiechaaDoorQWdC
import Derived.Test.YtpenicjlpiechaaDoorQRegP
import Derived.WalkKit
import Derived.WalkSpells
import Derived.WalkLawsBesides
namespace Go.Proofs.YtpenicjlpiechaaDoor
set_option maxRecDepth 10000
open Go Go.RowKit
set_option linter.unusedVariables false
set_option linter.unusedSimpArgs false

set_option maxHeartbeats 8000000 in
theorem rd_a (t1 t2 t3 t4 r : Int) (w : World) (hr : ¬ (0 ≤ r ∧ r ≤ 100000000)) : Calls Tryd.prog 11 #[.int .i64 t1, .int .i64 t2, .int .i64 t3, .int .i64 t4, .int .i64 r] w fun e w' => e = .returned (.tuple #[.agg (smc (0) (0) (0)).toArray, .int .i64 (1)]) ∧ Below w.heap.size w w' := by
  have hM := Ms.refl w
  go_enter Tryd.func11, Tryd.ntmps11
  refine wp_seq_k fun _ κ1 => wl_region (wl_give rfl (g_alloc 23 (smc (0) (0) (0)) zeroSm ?_))
  intro w2 t_ b_
  replace hM := hM.new t_ b_
  clear t_ b_
  refine wl_fare kn ?_
  simp (disch := omega) only [fx, pv, kx]
  refine wl_nil (κ1 _ _ ?_)
  refine wp_seq_k fun _ κ3 => wp_seq_k fun _ κ4 => wl_region (wl_fare kn ?_)
  simp (disch := omega) only [fx, pv, kx]
  refine wl_give rfl (g_cM hM (kf23 _ _) (may_n r w2 hr) rfl fun w5 hM => wl_fare kn ?_)
  simp (config := { maxSteps := 10000000 }) (disch := omega) only [fx, pv, kx]
  refine wl_nil (κ4 _ _ ?_)
  refine wp_cond_true rfl (wp_seq_k fun _ κ6 => ?_)
  refine wl_region (wl_give rfl (g_bldSm_n   ?_))
  try simp only [nz]
  refine wl_give rfl (g_store_all 23 _ _ (w.heap.size) (smc (0) (0) (0)) _ 23 rfl rfl (hM.get 0 rfl) (szSm _ _ _) (rfl) (one_smc _ _ _) fun w7 t_ b_ => ?_)
  replace hM : Ms w w7 [blk (w.heap.size) (smc (0) (0) (0)) 23] := hM.put 0 rfl t_ b_
  clear t_ b_
  refine wl_fare kn ?_
  simp (disch := omega) only [fx, pv, kx]
  refine wl_nil (κ6 _ _ ?_)
  refine wp_ret ?_
  (try simp only [Exit.inBlock, Exit.then])
  exact bodyPost_ret (results_blk_tmp rfl _ (smc (0) (0) (0)) (.int .i64 (1)) _ rfl rfl (hM.get 0 rfl) Tryd.underlying23 rfl (szSm _ _ _)) rfl ⟨rfl, hM.below⟩
set_option maxHeartbeats 8000000 in
theorem rd_b (t1 t2 t3 t4 r : Int) (w : World) (hr : 0 ≤ r ∧ r ≤ 100000000) (h1 : t4 < t1) : Calls Tryd.prog 11 #[.int .i64 t1, .int .i64 t2, .int .i64 t3, .int .i64 t4, .int .i64 r] w fun e w' => e = .returned (.tuple #[.agg (smc (0) (0) (0)).toArray, .int .i64 (1)]) ∧ Below w.heap.size w w' := by
  have hM := Ms.refl w
  go_enter Tryd.func11, Tryd.ntmps11
  refine wp_seq_k fun _ κ1 => wl_region (wl_give rfl (g_alloc 23 (smc (0) (0) (0)) zeroSm ?_))
  intro w2 t_ b_
  replace hM := hM.new t_ b_
  clear t_ b_
  refine wl_fare kn ?_
  simp (disch := omega) only [fx, pv, kx]
  refine wl_nil (κ1 _ _ ?_)
  refine wp_seq_k fun _ κ3 => wp_seq_k fun _ κ4 => wl_region (wl_fare kn ?_)
  simp (disch := omega) only [fx, pv, kx]
  refine wl_give rfl (g_cM hM (kf23 _ _) (may_y r w2 hr) rfl fun w5 hM => wl_fare kn ?_)
  simp (config := { maxSteps := 10000000 }) (disch := omega) only [fx, pv, kx]
  refine wl_nil (κ4 _ _ ?_)
  refine wp_cond_true rfl (wp_seq_k fun _ κ6 => ?_)
  refine wl_region (wl_give rfl (g_bldSm_n   ?_))
  try simp only [nz]
  refine wl_give rfl (g_store_all 23 _ _ (w.heap.size) (smc (0) (0) (0)) _ 23 rfl rfl (hM.get 0 rfl) (szSm _ _ _) (rfl) (one_smc _ _ _) fun w7 t_ b_ => ?_)
  replace hM : Ms w w7 [blk (w.heap.size) (smc (0) (0) (0)) 23] := hM.put 0 rfl t_ b_
  clear t_ b_
  refine wl_fare kn ?_
  simp (disch := omega) only [fx, pv, kx]
  refine wl_nil (κ6 _ _ ?_)
  refine wp_ret ?_
  (try simp only [Exit.inBlock, Exit.then])
  exact bodyPost_ret (results_blk_tmp rfl _ (smc (0) (0) (0)) (.int .i64 (1)) _ rfl rfl (hM.get 0 rfl) Tryd.underlying23 rfl (szSm _ _ _)) rfl ⟨rfl, hM.below⟩
set_option maxHeartbeats 8000000 in
theorem rd_c (t1 t2 t3 t4 r : Int) (w : World) (hr : 0 ≤ r ∧ r ≤ 100000000) (h1 : ¬ t4 < t1) (h2 : t3 < t2) : Calls Tryd.prog 11 #[.int .i64 t1, .int .i64 t2, .int .i64 t3, .int .i64 t4, .int .i64 r] w fun e w' => e = .returned (.tuple #[.agg (smc (0) (0) (0)).toArray, .int .i64 (1)]) ∧ Below w.heap.size w w' := by
  have hM := Ms.refl w
  go_enter Tryd.func11, Tryd.ntmps11
  refine wp_seq_k fun _ κ1 => wl_region (wl_give rfl (g_alloc 23 (smc (0) (0) (0)) zeroSm ?_))
  intro w2 t_ b_
  replace hM := hM.new t_ b_
  clear t_ b_
  refine wl_fare kn ?_
  simp (disch := omega) only [fx, pv, kx]
  refine wl_nil (κ1 _ _ ?_)
  refine wp_seq_k fun _ κ3 => wp_seq_k fun _ κ4 => wl_region (wl_fare kn ?_)
  simp (disch := omega) only [fx, pv, kx]
  refine wl_give rfl (g_cM hM (kf23 _ _) (may_y r w2 hr) rfl fun w5 hM => wl_fare kn ?_)
  simp (config := { maxSteps := 10000000 }) (disch := omega) only [fx, pv, kx]
  refine wl_nil (κ4 _ _ ?_)
  refine wp_cond_true rfl (wp_seq_k fun _ κ6 => ?_)
  refine wl_region (wl_give rfl (g_bldSm_n   ?_))
  try simp only [nz]
  refine wl_give rfl (g_store_all 23 _ _ (w.heap.size) (smc (0) (0) (0)) _ 23 rfl rfl (hM.get 0 rfl) (szSm _ _ _) (rfl) (one_smc _ _ _) fun w7 t_ b_ => ?_)
  replace hM : Ms w w7 [blk (w.heap.size) (smc (0) (0) (0)) 23] := hM.put 0 rfl t_ b_
  clear t_ b_
  refine wl_fare kn ?_
  simp (disch := omega) only [fx, pv, kx]
  refine wl_nil (κ6 _ _ ?_)
  refine wp_ret ?_
  (try simp only [Exit.inBlock, Exit.then])
  exact bodyPost_ret (results_blk_tmp rfl _ (smc (0) (0) (0)) (.int .i64 (1)) _ rfl rfl (hM.get 0 rfl) Tryd.underlying23 rfl (szSm _ _ _)) rfl ⟨rfl, hM.below⟩
set_option maxHeartbeats 8000000 in
theorem rd_d (t1 t2 t3 t4 r : Int) (w : World) (hr : 0 ≤ r ∧ r ≤ 100000000) (h1 : ¬ t4 < t1) (h2 : ¬ t3 < t2) (i1 : Wd.In64 t1) (i2 : Wd.In64 t2) (i3 : Wd.In64 t3) (i4 : Wd.In64 t4) (p e1 F1 q e2 F2 x e3 F3 y e4 F4 d e5 F5 O T1 o e6 F6 U T2 G Eg b e7 F7 : Int) (ip : Wd.In64 p) (iq : Wd.In64 q) (ix : Wd.In64 x) (iy : Wd.In64 y) (id_ : Wd.In64 d) (iG : Wd.In64 G) (a1 : Hid (Wd.wh (t4 - t1) = (p, e1))) (b1 : fnz [0, 0, e1] = F1) (a2 : Hid (Wd.wh (t3 - t2) = (q, e2))) (b2 : fnz [F1, 0, e2] = F2) (a3 : Hid (Wd.wh (t2 - t1) = (x, e3))) (b3 : fnz [F2, 0, e3] = F3) (a4 : Hid (Wd.wh (t3 - t4) = (y, e4))) (b4 : fnz [F3, 0, e4] = F4) (a5 : Hid (Wd.wh (p - q) = (d, e5))) (b5 : fnz [F4, 0, e5] = F5) (hO : Hid ((x + y) / 2 = O)) (hT1 : Hid ((x + y) % 2 = T1)) (a6 : Hid (Wd.wh O = (o, e6))) (b6 : fnz [F5, 0, e6] = F6) (hU : Hid ((d + 1) / 2 = U)) (hT2 : Hid ((d + 1) % 2 = T2)) (hg : Hid (Wd.grw p (2 * r) = (G, Eg))) (a7 : Hid (Wd.wh (U + G + 2) = (b, e7))) (b7 : fnz [F6, Eg, e7] = F7) (h3 : d < 0) (F8 : Int) (b8 : fnz [F7, 3] = F8) (h4 : F8 ≠ 0) : Calls Tryd.prog 11 #[.int .i64 t1, .int .i64 t2, .int .i64 t3, .int .i64 t4, .int .i64 r] w fun e w' => e = .returned (.tuple #[.agg (smc (0) (0) (0)).toArray, .int .i64 (F8)]) ∧ Below w.heap.size w w' := by
  have hM := Ms.refl w
  go_enter Tryd.func11, Tryd.ntmps11
  refine wp_seq_k fun _ κ1 => wl_region (wl_give rfl (g_alloc 23 (smc (0) (0) (0)) zeroSm ?_))
  intro w2 t_ b_
  replace hM := hM.new t_ b_
  clear t_ b_
  refine wl_fare kn ?_
  simp (disch := omega) only [fx, pv, kx]
  refine wl_nil (κ1 _ _ ?_)
  refine wp_seq_k fun _ κ3 => wp_seq_k fun _ κ4 => wl_region (wl_fare kn ?_)
  simp (disch := omega) only [fx, pv, kx]
  refine wl_give rfl (g_cM hM (kf23 _ _) (may_y r w2 hr) rfl fun w5 hM => wl_fare kn ?_)
  simp (config := { maxSteps := 10000000 }) (disch := omega) only [fx, pv, kx]
  refine wl_nil (κ4 _ _ ?_)
  refine wp_cond_false rfl (wp_skip ?_)
  refine κ3 _ _ (wp_seq_k fun _ κ6 => ?_)
  refine wl_region (wl_give rfl (g_alloc1 25 (.int .i64 (0)) zeroC25 rfl ?_))
  intro w7 t_ b_
  replace hM := hM.new t_ b_
  clear t_ b_
  try simp only [nz]
  refine wl_give rfl (g_st1 25 _ _ (w5.heap.size) 0 (.int .i64 (0)) _ 25 rfl rfl (hM.get 0 rfl) (show 0 < 1 by decide) rfl rfl size25 fun w8 t_ b_ => ?_)
  replace hM : Ms w w8 [blk (w5.heap.size) ([.int .i64 (0)]) 25, blk (w.heap.size) (smc (0) (0) (0)) 23] := hM.put 0 rfl t_ b_
  clear t_ b_
  try simp only [nz]
  refine wl_nil (κ6 _ _ ?_)
  refine wp_seq_k fun _ κ9 => wl_region (wl_give rfl (g_mkF 24 _ [.pointer (some ⟨w5.heap.size, 0, none⟩)] rfl ?_))
  try simp only [nz]
  refine wl_give rfl (g_alloc1 63 (.nilFunc) zeroC63 rfl fun w10 t_ b_ => ?_)
  replace hM := hM.new t_ b_
  clear t_ b_
  try simp only [nz]
  refine wl_give rfl (g_st1 63 _ _ (w8.heap.size) 0 (.func (.func 24) #[] #[.pointer (some ⟨w5.heap.size, 0, none⟩)]) _ 63 rfl rfl (hM.get 0 rfl) (show 0 < 1 by decide) rfl rfl size63 fun w11 t_ b_ => ?_)
  replace hM : Ms w w11 [blk (w8.heap.size) ([.func (.func 24) #[] #[.pointer (some ⟨w5.heap.size, 0, none⟩)]]) 63, blk (w5.heap.size) ([.int .i64 (0)]) 25, blk (w.heap.size) (smc (0) (0) (0)) 23] := hM.put 0 rfl t_ b_
  clear t_ b_
  try simp only [nz]
  refine wl_nil (κ9 _ _ ?_)
  refine wp_seq_k fun _ κ12 => wl_region (wl_give rfl (g_mkF 27 _ [.pointer (some ⟨w8.heap.size, 0, none⟩)] rfl ?_))
  refine wl_fare kn ?_
  simp (disch := omega) only [fx, pv, kx]
  refine wl_nil (κ12 _ _ ?_)
  refine wp_seq_k fun _ κ13 => wl_region (wl_fare kn ?_)
  simp (config := { maxSteps := 10000000 }) (disch := omega) only [fx, pv, kx]
  refine wl_give rfl (g_callc _ 27 [_, _] _ #[.pointer (some ⟨w8.heap.size, 0, none⟩)] _ rfl (kf27 _ _) rfl ((less_any (t4) (t1) 0 p e1 F1 i4 i1 a1 b1 (show Ms w w11 [blk (w5.heap.size) ([.int .i64 (0)]) 25, blk (w8.heap.size) ([.func (.func 24) #[] #[.pointer (some ⟨w5.heap.size, 0, none⟩)]]) 63, blk (w.heap.size) (smc (0) (0) (0)) 23] from (hM.up 1 rfl))).mono ?_))
  rintro e w14 ⟨rfl, h_⟩
  refine ⟨_, rfl, ?_⟩
  replace hM : Ms w w14 [blk (w5.heap.size) ([.int .i64 (F1)]) 25, blk (w8.heap.size) ([.func (.func 24) #[] #[.pointer (some ⟨w5.heap.size, 0, none⟩)]]) 63, blk (w.heap.size) (smc (0) (0) (0)) 23] := h_
  clear h_
  refine wl_fare kn ?_
  simp (config := { maxSteps := 10000000 }) (disch := omega) only [fx, pv, kx]
  refine wl_give rfl (g_callc _ 27 [_, _] _ #[.pointer (some ⟨w8.heap.size, 0, none⟩)] _ rfl (kf27 _ _) rfl ((less_any (t3) (t2) F1 q e2 F2 i3 i2 a2 b2 (show Ms w w14 [blk (w5.heap.size) ([.int .i64 (F1)]) 25, blk (w8.heap.size) ([.func (.func 24) #[] #[.pointer (some ⟨w5.heap.size, 0, none⟩)]]) 63, blk (w.heap.size) (smc (0) (0) (0)) 23] from ((hM.up 1 rfl).up 1 rfl))).mono ?_))
  rintro e w15 ⟨rfl, h_⟩
  refine ⟨_, rfl, ?_⟩
  replace hM : Ms w w15 [blk (w5.heap.size) ([.int .i64 (F2)]) 25, blk (w8.heap.size) ([.func (.func 24) #[] #[.pointer (some ⟨w5.heap.size, 0, none⟩)]]) 63, blk (w.heap.size) (smc (0) (0) (0)) 23] := h_
  clear h_
  refine wl_fare kn ?_
  simp (config := { maxSteps := 10000000 }) (disch := omega) only [fx, pv, kx]
  refine wl_nil (κ13 _ _ ?_)
  refine wp_seq_k fun _ κ16 => wl_region (wl_fare kn ?_)
  simp (config := { maxSteps := 10000000 }) (disch := omega) only [fx, pv, kx]
  refine wl_give rfl (g_callc _ 27 [_, _] _ #[.pointer (some ⟨w8.heap.size, 0, none⟩)] _ rfl (kf27 _ _) rfl ((less_any (t2) (t1) F2 x e3 F3 i2 i1 a3 b3 (show Ms w w15 [blk (w5.heap.size) ([.int .i64 (F2)]) 25, blk (w8.heap.size) ([.func (.func 24) #[] #[.pointer (some ⟨w5.heap.size, 0, none⟩)]]) 63, blk (w.heap.size) (smc (0) (0) (0)) 23] from ((hM.up 1 rfl).up 1 rfl))).mono ?_))
  rintro e w17 ⟨rfl, h_⟩
  refine ⟨_, rfl, ?_⟩
  replace hM : Ms w w17 [blk (w5.heap.size) ([.int .i64 (F3)]) 25, blk (w8.heap.size) ([.func (.func 24) #[] #[.pointer (some ⟨w5.heap.size, 0, none⟩)]]) 63, blk (w.heap.size) (smc (0) (0) (0)) 23] := h_
  clear h_
  refine wl_fare kn ?_
  simp (config := { maxSteps := 10000000 }) (disch := omega) only [fx, pv, kx]
  refine wl_give rfl (g_callc _ 27 [_, _] _ #[.pointer (some ⟨w8.heap.size, 0, none⟩)] _ rfl (kf27 _ _) rfl ((less_any (t3) (t4) F3 y e4 F4 i3 i4 a4 b4 (show Ms w w17 [blk (w5.heap.size) ([.int .i64 (F3)]) 25, blk (w8.heap.size) ([.func (.func 24) #[] #[.pointer (some ⟨w5.heap.size, 0, none⟩)]]) 63, blk (w.heap.size) (smc (0) (0) (0)) 23] from ((hM.up 1 rfl).up 1 rfl))).mono ?_))
  rintro e w18 ⟨rfl, h_⟩
  refine ⟨_, rfl, ?_⟩
  replace hM : Ms w w18 [blk (w5.heap.size) ([.int .i64 (F4)]) 25, blk (w8.heap.size) ([.func (.func 24) #[] #[.pointer (some ⟨w5.heap.size, 0, none⟩)]]) 63, blk (w.heap.size) (smc (0) (0) (0)) 23] := h_
  clear h_
  refine wl_fare kn ?_
  simp (config := { maxSteps := 10000000 }) (disch := omega) only [fx, pv, kx]
  refine wl_nil (κ16 _ _ ?_)
  refine wp_seq_k fun _ κ19 => ?_
  refine wp_region_poset (by kernel_rfl) (by kernel_rfl) [3, 10, 12, 13] [[], [], [], [], [], [], [], [0], [0], [0], [0], [0, 1], [], [0, 1, 2]] [[0, 3], [0, 3], [0, 3], [3], [1, 3], [3], [3], [1, 3], [1, 3], [1, 3], [3], [3], [3], []] (by kernel_rfl) (Pm := Nat) (fun π => [.func (.func 27) #[] #[.pointer (some ⟨w8.heap.size, 0, none⟩)], .int .i64 (p), .int .i64 (q), .int .i64 (d), .func (.func 24) #[] #[.pointer (some ⟨w5.heap.size, 0, none⟩)], .int .i64 (x), .int .i64 (y), .tuple #[.agg (Wd.nl (O)).toArray, .int .i64 (0)], .agg (Wd.nl (O)).toArray, .int .i64 (0), .int .i64 (o), .agg (smc (o) (d) (0)).toArray, .pointer (some ⟨π, 0, none⟩), undef]) (fun _ => by rfl) (fun F_ π wx => (F_ = [false, false, false, false] ∧ Ms w wx [blk (w5.heap.size) ([.int .i64 (F4)]) 25, blk (w8.heap.size) ([.func (.func 24) #[] #[.pointer (some ⟨w5.heap.size, 0, none⟩)]]) 63, blk (w.heap.size) (smc (0) (0) (0)) 23]) ∨ (F_ = [true, false, false, false] ∧ Ms w wx [blk (w5.heap.size) ([.int .i64 (F5)]) 25, blk (w8.heap.size) ([.func (.func 24) #[] #[.pointer (some ⟨w5.heap.size, 0, none⟩)]]) 63, blk (w.heap.size) (smc (0) (0) (0)) 23]) ∨ (F_ = [false, false, true, false] ∧ Ms w wx [blk (π) (smc (0) (0) (0)) 23, blk (w5.heap.size) ([.int .i64 (F4)]) 25, blk (w8.heap.size) ([.func (.func 24) #[] #[.pointer (some ⟨w5.heap.size, 0, none⟩)]]) 63, blk (w.heap.size) (smc (0) (0) (0)) 23]) ∨ (F_ = [true, true, false, false] ∧ Ms w wx [blk (w5.heap.size) ([.int .i64 (F6)]) 25, blk (w8.heap.size) ([.func (.func 24) #[] #[.pointer (some ⟨w5.heap.size, 0, none⟩)]]) 63, blk (w.heap.size) (smc (0) (0) (0)) 23]) ∨ (F_ = [true, false, true, false] ∧ Ms w wx [blk (π) (smc (0) (0) (0)) 23, blk (w5.heap.size) ([.int .i64 (F5)]) 25, blk (w8.heap.size) ([.func (.func 24) #[] #[.pointer (some ⟨w5.heap.size, 0, none⟩)]]) 63, blk (w.heap.size) (smc (0) (0) (0)) 23]) ∨ (F_ = [true, true, true, false] ∧ Ms w wx [blk (π) (smc (0) (0) (0)) 23, blk (w5.heap.size) ([.int .i64 (F6)]) 25, blk (w8.heap.size) ([.func (.func 24) #[] #[.pointer (some ⟨w5.heap.size, 0, none⟩)]]) 63, blk (w.heap.size) (smc (0) (0) (0)) 23]) ∨ (F_ = [true, true, true, true] ∧ Ms w wx [blk (π) (smc (o) (d) (0)) 23, blk (w5.heap.size) ([.int .i64 (F6)]) 25, blk (w8.heap.size) ([.func (.func 24) #[] #[.pointer (some ⟨w5.heap.size, 0, none⟩)]]) 63, blk (w.heap.size) (smc (0) (0) (0)) 23])) (0) (.inl ⟨rfl, hM.drew⟩) ?_ ?_ ?_
  · intro j_ k_ o_ F_ hj_ ho_ hf_ hn_ π wx hM
    rcases j_ with _ | _ | _ | _ | j_
    · obtain rfl := Option.some.inj hj_
      cases so ho_
      simp only [fullL, Act.put, st_a, st_s, st_0]
      rcases hM with ⟨rfl, hM⟩ | ⟨rfl, hM⟩ | ⟨rfl, hM⟩ | ⟨rfl, hM⟩ | ⟨rfl, hM⟩ | ⟨rfl, hM⟩ | ⟨rfl, hM⟩
      · exact gw rfl (g_callc _ 27 [_, _] _ #[.pointer (some ⟨w8.heap.size, 0, none⟩)] _ rfl (kf27 _ _) rfl ((less_any (p) (q) F4 d e5 F5 ip iq a5 b5 (show Ms w wx [blk (w5.heap.size) ([.int .i64 (F4)]) 25, blk (w8.heap.size) ([.func (.func 24) #[] #[.pointer (some ⟨w5.heap.size, 0, none⟩)]]) 63, blk (w.heap.size) (smc (0) (0) (0)) 23] from ((hM.up 1 rfl).up 1 rfl))).mono (fun e w' ⟨h1_, h2_⟩ => ⟨_, h1_, ⟨(π), rfl, fun i h1 h2 => by rcases i with _ | _ | _ | _ | _ | _ | _ | _ | _ | _ | _ | _ | _ | _ | i <;> first | rfl | trivial | exact absurd rfl h2 | exact absurd (by decide) h1, .inr (.inl ⟨rfl, (((h2_.up 2 rfl).up 2 rfl).up 2 rfl)⟩)⟩⟩)))
      · exact absurd hf_ (by decide)
      · exact gw rfl (g_callc _ 27 [_, _] _ #[.pointer (some ⟨w8.heap.size, 0, none⟩)] _ rfl (kf27 _ _) rfl ((less_any (p) (q) F4 d e5 F5 ip iq a5 b5 (show Ms w wx [blk (w5.heap.size) ([.int .i64 (F4)]) 25, blk (w8.heap.size) ([.func (.func 24) #[] #[.pointer (some ⟨w5.heap.size, 0, none⟩)]]) 63, blk (π) (smc (0) (0) (0)) 23, blk (w.heap.size) (smc (0) (0) (0)) 23] from ((hM.up 2 rfl).up 2 rfl))).mono (fun e w' ⟨h1_, h2_⟩ => ⟨_, h1_, ⟨(π), rfl, fun i h1 h2 => by rcases i with _ | _ | _ | _ | _ | _ | _ | _ | _ | _ | _ | _ | _ | _ | i <;> first | rfl | trivial | exact absurd rfl h2 | exact absurd (by decide) h1, .inr (.inr (.inr (.inr (.inl ⟨rfl, ((((h2_.up 3 rfl).up 2 rfl).up 2 rfl).up 3 rfl)⟩))))⟩⟩)))
      · exact absurd hf_ (by decide)
      · exact absurd hf_ (by decide)
      · exact absurd hf_ (by decide)
      · exact absurd hf_ (by decide)
    · obtain rfl := Option.some.inj hj_
      cases so ho_
      simp only [fullL, Act.put, st_a, st_s, st_0]
      rcases hM with ⟨rfl, hM⟩ | ⟨rfl, hM⟩ | ⟨rfl, hM⟩ | ⟨rfl, hM⟩ | ⟨rfl, hM⟩ | ⟨rfl, hM⟩ | ⟨rfl, hM⟩
      · exact absurd (hn_ 0 (by decide)) (by decide)
      · exact gw rfl (g_callc _ 24 [_, _] _ #[.pointer (some ⟨w5.heap.size, 0, none⟩)] _ rfl (kf24 _ _) rfl ((num_any O 0 F5 o e6 F6 a6 b6 hM).mono (fun e w' ⟨h1_, h2_⟩ => ⟨_, h1_, ⟨(π), rfl, fun i h1 h2 => by rcases i with _ | _ | _ | _ | _ | _ | _ | _ | _ | _ | _ | _ | _ | _ | i <;> first | rfl | trivial | exact absurd rfl h2 | exact absurd (by decide) h1, .inr (.inr (.inr (.inl ⟨rfl, (((h2_.up 2 rfl).up 2 rfl).up 2 rfl)⟩)))⟩⟩)))
      · exact absurd (hn_ 0 (by decide)) (by decide)
      · exact absurd hf_ (by decide)
      · exact gw rfl (g_callc _ 24 [_, _] _ #[.pointer (some ⟨w5.heap.size, 0, none⟩)] _ rfl (kf24 _ _) rfl ((num_any O 0 F5 o e6 F6 a6 b6 (show Ms w wx [blk (w5.heap.size) ([.int .i64 (F5)]) 25, blk (π) (smc (0) (0) (0)) 23, blk (w8.heap.size) ([.func (.func 24) #[] #[.pointer (some ⟨w5.heap.size, 0, none⟩)]]) 63, blk (w.heap.size) (smc (0) (0) (0)) 23] from (hM.up 1 rfl))).mono (fun e w' ⟨h1_, h2_⟩ => ⟨_, h1_, ⟨(π), rfl, fun i h1 h2 => by rcases i with _ | _ | _ | _ | _ | _ | _ | _ | _ | _ | _ | _ | _ | _ | i <;> first | rfl | trivial | exact absurd rfl h2 | exact absurd (by decide) h1, .inr (.inr (.inr (.inr (.inr (.inl ⟨rfl, ((((h2_.up 3 rfl).up 3 rfl).up 2 rfl).up 3 rfl)⟩)))))⟩⟩)))
      · exact absurd hf_ (by decide)
      · exact absurd hf_ (by decide)
    · obtain rfl := Option.some.inj hj_
      cases so ho_
      simp only [fullL, Act.put, st_a, st_s, st_0]
      rcases hM with ⟨rfl, hM⟩ | ⟨rfl, hM⟩ | ⟨rfl, hM⟩ | ⟨rfl, hM⟩ | ⟨rfl, hM⟩ | ⟨rfl, hM⟩ | ⟨rfl, hM⟩
      · exact gw rfl (g_alloc 23 (smc (0) (0) (0)) zeroSm (fun w' t_ b_ => ⟨(wx.heap.size), rfl, fun i h1 h2 => by rcases i with _ | _ | _ | _ | _ | _ | _ | _ | _ | _ | _ | _ | _ | _ | i <;> first | rfl | trivial | exact absurd rfl h2 | exact absurd (by decide) h1, .inr (.inr (.inl ⟨rfl, (((((hM.new t_ b_).up 3 rfl).up 3 rfl).up 3 rfl).up 3 rfl)⟩))⟩))
      · exact gw rfl (g_alloc 23 (smc (0) (0) (0)) zeroSm (fun w' t_ b_ => ⟨(wx.heap.size), rfl, fun i h1 h2 => by rcases i with _ | _ | _ | _ | _ | _ | _ | _ | _ | _ | _ | _ | _ | _ | i <;> first | rfl | trivial | exact absurd rfl h2 | exact absurd (by decide) h1, .inr (.inr (.inr (.inr (.inl ⟨rfl, (((((hM.new t_ b_).up 3 rfl).up 3 rfl).up 3 rfl).up 3 rfl)⟩))))⟩))
      · exact absurd hf_ (by decide)
      · exact gw rfl (g_alloc 23 (smc (0) (0) (0)) zeroSm (fun w' t_ b_ => ⟨(wx.heap.size), rfl, fun i h1 h2 => by rcases i with _ | _ | _ | _ | _ | _ | _ | _ | _ | _ | _ | _ | _ | _ | i <;> first | rfl | trivial | exact absurd rfl h2 | exact absurd (by decide) h1, .inr (.inr (.inr (.inr (.inr (.inl ⟨rfl, (((((hM.new t_ b_).up 3 rfl).up 3 rfl).up 3 rfl).up 3 rfl)⟩)))))⟩))
      · exact absurd hf_ (by decide)
      · exact absurd hf_ (by decide)
      · exact absurd hf_ (by decide)
    · obtain rfl := Option.some.inj hj_
      cases so ho_
      simp only [fullL, Act.put, st_a, st_s, st_0]
      rcases hM with ⟨rfl, hM⟩ | ⟨rfl, hM⟩ | ⟨rfl, hM⟩ | ⟨rfl, hM⟩ | ⟨rfl, hM⟩ | ⟨rfl, hM⟩ | ⟨rfl, hM⟩
      · exact absurd (hn_ 0 (by decide)) (by decide)
      · exact absurd (hn_ 1 (by decide)) (by decide)
      · exact absurd (hn_ 0 (by decide)) (by decide)
      · exact absurd (hn_ 2 (by decide)) (by decide)
      · exact absurd (hn_ 1 (by decide)) (by decide)
      · exact gw rfl (g_store_all 23 _ _ (π) (smc (o) (d) (0)) _ 23 rfl rfl (hM.get 0 rfl) (szSm _ _ _) (rfl) (one_smc _ _ _) (fun w' t_ b_ => ⟨(π), rfl, fun i h1 h2 => by rcases i with _ | _ | _ | _ | _ | _ | _ | _ | _ | _ | _ | _ | _ | _ | i <;> first | rfl | trivial | exact absurd rfl h2 | exact absurd (by decide) h1, .inr (.inr (.inr (.inr (.inr (.inr (⟨rfl, (((((hM.put 0 rfl t_ b_).up 3 rfl).up 3 rfl).up 3 rfl).up 3 rfl)⟩))))))⟩))
      · exact absurd hf_ (by decide)
    · simp at hj_
  · intro i_ o_ F_ ho_ hi_ hd_ hb_ π wx hM
    simp only [fullL, Act.put, st_a, st_s, st_0]
    rcases i_ with _ | _ | _ | _ | _ | _ | _ | _ | _ | _ | _ | _ | _ | _ | i_
    · cases so ho_
      exact gw rfl (g_move _ _ rfl ⟨rfl, hM⟩)
    · cases so ho_
      exact gw rfl (g_move _ _ rfl ⟨rfl, hM⟩)
    · cases so ho_
      exact gw rfl (g_move _ _ rfl ⟨rfl, hM⟩)
    · exact absurd (by decide) hi_
    · cases so ho_
      rcases hM with ⟨rfl, hM⟩ | ⟨rfl, hM⟩ | ⟨rfl, hM⟩ | ⟨rfl, hM⟩ | ⟨rfl, hM⟩ | ⟨rfl, hM⟩ | ⟨rfl, hM⟩
      · exact gw rfl (g_ld1 63 _ (w8.heap.size) (0) _ rfl (ld63 _ _ _ _ ((hM.get 1 rfl).cell 0 _ (rfl))) ⟨rfl, .inl ⟨rfl, hM⟩⟩)
      · exact gw rfl (g_ld1 63 _ (w8.heap.size) (0) _ rfl (ld63 _ _ _ _ ((hM.get 1 rfl).cell 0 _ (rfl))) ⟨rfl, .inr (.inl ⟨rfl, hM⟩)⟩)
      · exact gw rfl (g_ld1 63 _ (w8.heap.size) (0) _ rfl (ld63 _ _ _ _ ((hM.get 2 rfl).cell 0 _ (rfl))) ⟨rfl, .inr (.inr (.inl ⟨rfl, hM⟩))⟩)
      · exact absurd (hb_ 1 (by decide)) (by decide)
      · exact gw rfl (g_ld1 63 _ (w8.heap.size) (0) _ rfl (ld63 _ _ _ _ ((hM.get 2 rfl).cell 0 _ (rfl))) ⟨rfl, .inr (.inr (.inr (.inr (.inl ⟨rfl, hM⟩))))⟩)
      · exact absurd (hb_ 1 (by decide)) (by decide)
      · exact absurd (hb_ 1 (by decide)) (by decide)
    · cases so ho_
      exact gw rfl (g_move _ _ rfl ⟨rfl, hM⟩)
    · cases so ho_
      exact gw rfl (g_move _ _ rfl ⟨rfl, hM⟩)
    · cases so ho_
      rcases hM with ⟨rfl, hM⟩ | ⟨rfl, hM⟩ | ⟨rfl, hM⟩ | ⟨rfl, hM⟩ | ⟨rfl, hM⟩ | ⟨rfl, hM⟩ | ⟨rfl, hM⟩
      · exact absurd (hd_ 0 (by decide)) (by decide)
      · exact gw rfl (g_call 30 _ _ [.int .i64 (x), .int .i64 (y)] (kf30 _ _) rfl ((half_any x y O T1 wx ix iy hO hT1).mono (fun _ _ ⟨h1_, h2_⟩ => ⟨_, h1_, rfl, .inr (.inl ⟨rfl, hM.call h2_⟩)⟩)))
      · exact absurd (hd_ 0 (by decide)) (by decide)
      · exact absurd (hb_ 1 (by decide)) (by decide)
      · exact gw rfl (g_call 30 _ _ [.int .i64 (x), .int .i64 (y)] (kf30 _ _) rfl ((half_any x y O T1 wx ix iy hO hT1).mono (fun _ _ ⟨h1_, h2_⟩ => ⟨_, h1_, rfl, .inr (.inr (.inr (.inr (.inl ⟨rfl, hM.call h2_⟩))))⟩)))
      · exact absurd (hb_ 1 (by decide)) (by decide)
      · exact absurd (hb_ 1 (by decide)) (by decide)
    · cases so ho_
      exact gw rfl (g_extract _ _ _ _ rfl rfl ⟨rfl, hM⟩)
    · cases so ho_
      exact gw rfl (g_extract _ _ _ _ rfl rfl ⟨rfl, hM⟩)
    · exact absurd (by decide) hi_
    · cases so ho_
      exact gw rfl (g_bldSm_10 _ _ (d) (o) rfl rfl ⟨rfl, hM⟩)
    · exact absurd (by decide) hi_
    · exact absurd (by decide) hi_
    · simp at ho_
  · simp only [fullL, Act.put, st_a, st_s, st_0]
    rintro F_ p21 w20 hF_ hM
    subst hF_
    rcases hM with ⟨h_, hM⟩ | ⟨h_, hM⟩ | ⟨h_, hM⟩ | ⟨h_, hM⟩ | ⟨h_, hM⟩ | ⟨h_, hM⟩ | ⟨h_, hM⟩
    · exact absurd h_ (by decide)
    · exact absurd h_ (by decide)
    · exact absurd h_ (by decide)
    · exact absurd h_ (by decide)
    · exact absurd h_ (by decide)
    · exact absurd h_ (by decide)
    clear h_
    replace hM : Ms w w20 [blk (p21) (smc (o) (d) (0)) 23, blk (w5.heap.size) ([.int .i64 (F6)]) 25, blk (w8.heap.size) ([.func (.func 24) #[] #[.pointer (some ⟨w5.heap.size, 0, none⟩)]]) 63, blk (w.heap.size) (smc (0) (0) (0)) 23] := hM
    refine κ19 _ _ (wp_seq_k fun _ κ22 => ?_)
    refine wp_region_steps (by kernel_rfl) (by kernel_rfl) [8, 10] [0, 0, 0, 0, 0, 0, 0, 0, 0, 1, 1] [0, 1, 1, 1, 1, 0, 0, 0, 1, 1, 2] (by kernel_rfl) (Pm := Unit) (fun π => [.func (.func 24) #[] #[.pointer (some ⟨w5.heap.size, 0, none⟩)], .pointer (some ⟨p21, 1, none⟩), .int .i64 (d), .int .i64 (p), .int .i64 (r), .tuple #[.agg (Wd.nl (U + G + 2)).toArray, .int .i64 (Eg)], .agg (Wd.nl (U + G + 2)).toArray, .int .i64 (Eg), .int .i64 (b), .pointer (some ⟨p21, 2, none⟩), undef]) (fun _ => by rfl) (fun j_ π wx => match j_ with | 0 => Ms w wx [blk (p21) (smc (o) (d) (0)) 23, blk (w5.heap.size) ([.int .i64 (F6)]) 25, blk (w8.heap.size) ([.func (.func 24) #[] #[.pointer (some ⟨w5.heap.size, 0, none⟩)]]) 63, blk (w.heap.size) (smc (0) (0) (0)) 23] | 1 => Ms w wx [blk (w5.heap.size) ([.int .i64 (F7)]) 25, blk (p21) (smc (o) (d) (0)) 23, blk (w8.heap.size) ([.func (.func 24) #[] #[.pointer (some ⟨w5.heap.size, 0, none⟩)]]) 63, blk (w.heap.size) (smc (0) (0) (0)) 23] | _ => Ms w wx [blk (w5.heap.size) ([.int .i64 (F7)]) 25, blk (p21) (smc (o) (d) (b)) 23, blk (w8.heap.size) ([.func (.func 24) #[] #[.pointer (some ⟨w5.heap.size, 0, none⟩)]]) 63, blk (w.heap.size) (smc (0) (0) (0)) 23]) () hM.drew ?_ ?_ ?_
    · intro j_ k_ o_ hj_ ho_ π wx hM
      rcases j_ with _ | _ | j_
      · obtain rfl := Option.some.inj hj_
        cases so ho_
        simp only [fullL, Act.put, st_a, st_s, st_0]
        change Ms _ _ _ at hM
        exact gw rfl (g_callc _ 24 [_, _] _ #[.pointer (some ⟨w5.heap.size, 0, none⟩)] _ rfl (kf24 _ _) rfl ((num_any (U + G + 2) Eg F6 b e7 F7 a7 b7 (show Ms w wx [blk (w5.heap.size) ([.int .i64 (F6)]) 25, blk (p21) (smc (o) (d) (0)) 23, blk (w8.heap.size) ([.func (.func 24) #[] #[.pointer (some ⟨w5.heap.size, 0, none⟩)]]) 63, blk (w.heap.size) (smc (0) (0) (0)) 23] from (hM.up 1 rfl))).mono (fun e w' ⟨h1_, h2_⟩ => ⟨_, h1_, ⟨(), rfl, (fun _ _ _ => by first | rfl | trivial), h2_⟩⟩)))
      · obtain rfl := Option.some.inj hj_
        cases so ho_
        simp only [fullL, Act.put, st_a, st_s, st_0]
        change Ms _ _ _ at hM
        exact gw rfl (g_st1 2 _ _ (p21) (2) (.int .i64 (b)) _ 23 rfl rfl (hM.get 1 rfl) (show 2 < 3 by decide) rfl rfl size2 (fun w' t_ b_ => ⟨(), rfl, (fun _ _ _ => by first | rfl | trivial), hM.put 1 rfl t_ b_⟩))
      · simp at hj_
    · intro i_ o_ ho_ hi_ j_ hd_ hh_ hj_ π wx hM
      simp only [fullL, Act.put, st_a, st_s, st_0]
      rcases i_ with _ | _ | _ | _ | _ | _ | _ | _ | _ | _ | _ | i_
      · cases so ho_
        rcases j_ with _ | _ | _ | j_
        · change Ms _ _ _ at hM
          exact gw rfl (g_ld1 63 _ (w8.heap.size) (0) _ rfl (ld63 _ _ _ _ ((hM.get 2 rfl).cell 0 _ (rfl))) ⟨rfl, hM⟩)
        · exact absurd hh_ (by decide)
        · exact absurd hh_ (by decide)
        · exact absurd hj_ (by simp)
      · cases so ho_
        exact gw rfl (g_fa _ _ _ _ _ _ rfl (faSm1 _ _ _) ⟨rfl, hM⟩)
      · cases so ho_
        rcases j_ with _ | _ | _ | j_
        · change Ms _ _ _ at hM
          exact gw rfl (g_ld1 2 _ (p21) (1) _ rfl (ld2 _ _ _ _ ((hM.get 0 rfl).cell (1) _ (rfl))) ⟨rfl, hM⟩)
        · change Ms _ _ _ at hM
          exact gw rfl (g_ld1 2 _ (p21) (1) _ rfl (ld2 _ _ _ _ ((hM.get 1 rfl).cell (1) _ (rfl))) ⟨rfl, hM⟩)
        · exact absurd hh_ (by decide)
        · exact absurd hj_ (by simp)
      · cases so ho_
        exact gw rfl (g_move _ _ rfl ⟨rfl, hM⟩)
      · cases so ho_
        exact gw rfl (g_move _ _ rfl ⟨rfl, hM⟩)
      · cases so ho_
        rcases j_ with _ | _ | _ | j_
        · change Ms _ _ _ at hM
          exact gw rfl (g_call 31 _ _ [.int .i64 (d), .int .i64 (p), .int .i64 (r)] (kf31 _ _) rfl ((bound_any d p r U T2 G Eg wx id_ ip hr hU hT2 hg iG).mono (fun _ _ ⟨h1_, h2_⟩ => ⟨_, h1_, rfl, hM.call h2_⟩)))
        · exact absurd hh_ (by decide)
        · exact absurd hh_ (by decide)
        · exact absurd hj_ (by simp)
      · cases so ho_
        exact gw rfl (g_extract _ _ _ _ rfl rfl ⟨rfl, hM⟩)
      · cases so ho_
        exact gw rfl (g_extract _ _ _ _ rfl rfl ⟨rfl, hM⟩)
      · exact absurd (by decide) hi_
      · cases so ho_
        exact gw rfl (g_fa _ _ _ _ _ _ rfl (faSm2 _ _ _) ⟨rfl, hM⟩)
      · exact absurd (by decide) hi_
      · simp at ho_
    · simp only [fullL, Act.put, st_a, st_s, st_0]
      rintro ⟨⟩ w23 hM
      replace hM : Ms w w23 [blk (w5.heap.size) ([.int .i64 (F7)]) 25, blk (p21) (smc (o) (d) (b)) 23, blk (w8.heap.size) ([.func (.func 24) #[] #[.pointer (some ⟨w5.heap.size, 0, none⟩)]]) 63, blk (w.heap.size) (smc (0) (0) (0)) 23] := hM
      refine κ22 _ _ (wp_seq_k fun _ κ24 => ?_)
      refine wp_seq_k fun _ κ25 => wl_region (wl_fare kn ?_)
      simp (config := { maxSteps := 10000000 }) (disch := omega) only [fx, pv, kx, (hM.get 1 rfl).cell 1 (.int .i64 (d)) rfl]
      refine wl_nil (κ25 _ _ ?_)
      refine wp_cond_true rfl (wl_region ?_)
      refine wl_give rfl (g_ld1 25 _ (w5.heap.size) (0) _ rfl (ld25 _ _ _ _ ((hM.get 0 rfl).cell 0 _ (rfl))) ?_)
      try simp only [nz]
      refine wl_give rfl (g_bsE2 _ _ (F7) (3) rfl rfl hM fun w26 h_ => ?_)
      replace hM : Ms w w26 [blk (w23.heap.size) [.int .i64 (F7), .int .i64 (3)] 25, blk (w5.heap.size) ([.int .i64 (F7)]) 25, blk (p21) (smc (o) (d) (b)) 23, blk (w8.heap.size) ([.func (.func 24) #[] #[.pointer (some ⟨w5.heap.size, 0, none⟩)]]) 63, blk (w.heap.size) (smc (0) (0) (0)) 23] := h_
      clear h_
      try simp only [nz]
      refine wl_give rfl (g_call 26 _ _ [.slice (some ⟨w23.heap.size, 0, none⟩) (2) (2)] (kf26 _ _) rfl ((or_any [F7, 3] rfl (Nat.le_of_ble_eq_true rfl) F8 b8 hM).mono ?_))
      rintro e w27 ⟨rfl, h_⟩
      refine ⟨_, rfl, ?_⟩
      replace hM : Ms w w27 [blk (w23.heap.size) [.int .i64 (F7), .int .i64 (3)] 25, blk (w5.heap.size) ([.int .i64 (F7)]) 25, blk (p21) (smc (o) (d) (b)) 23, blk (w8.heap.size) ([.func (.func 24) #[] #[.pointer (some ⟨w5.heap.size, 0, none⟩)]]) 63, blk (w.heap.size) (smc (0) (0) (0)) 23] := h_
      clear h_
      try simp only [nz]
      refine wl_give rfl (g_st1 25 _ _ (w5.heap.size) 0 (.int .i64 (F8)) _ 25 rfl rfl (hM.get 1 rfl) (show 0 < 1 by decide) rfl rfl size25 fun w28 t_ b_ => ?_)
      replace hM : Ms w w28 [blk (w23.heap.size) [.int .i64 (F7), .int .i64 (3)] 25, blk (w5.heap.size) ([.int .i64 (F8)]) 25, blk (p21) (smc (o) (d) (b)) 23, blk (w8.heap.size) ([.func (.func 24) #[] #[.pointer (some ⟨w5.heap.size, 0, none⟩)]]) 63, blk (w.heap.size) (smc (0) (0) (0)) 23] := hM.put 1 rfl t_ b_
      clear t_ b_
      try simp only [nz]
      refine wl_nil (κ24 _ _ ?_)
      refine wp_seq_k fun _ κ29 => wp_seq_k fun _ κ30 => wl_region (wl_give rfl (g_ld1 25 _ (w5.heap.size) (0) _ rfl (ld25 _ _ _ _ ((hM.get 1 rfl).cell 0 _ (rfl))) ?_))
      refine wl_fare kn ?_
      simp (disch := omega) only [fx, pv, kx]
      refine wl_nil (κ30 _ _ ?_)
      refine wp_cond_true rfl (wp_seq_k fun _ κ31 => ?_)
      refine wp_region_steps (by kernel_rfl) (by kernel_rfl) [2] [0, 0, 0, 1] [0, 1, 1, 1] (by kernel_rfl) (Pm := Unit) (fun π => [.agg (smc (0) (0) (0)).toArray, .int .i64 (F8), undef, .int .i64 (F8)]) (fun _ => by rfl) (fun j_ π wx => match j_ with | 0 => Ms w wx [blk (w23.heap.size) [.int .i64 (F7), .int .i64 (3)] 25, blk (w5.heap.size) ([.int .i64 (F8)]) 25, blk (p21) (smc (o) (d) (b)) 23, blk (w8.heap.size) ([.func (.func 24) #[] #[.pointer (some ⟨w5.heap.size, 0, none⟩)]]) 63, blk (w.heap.size) (smc (0) (0) (0)) 23] | _ => Ms w wx [blk (w23.heap.size) [.int .i64 (F7), .int .i64 (3)] 25, blk (w5.heap.size) ([.int .i64 (F8)]) 25, blk (p21) (smc (o) (d) (b)) 23, blk (w8.heap.size) ([.func (.func 24) #[] #[.pointer (some ⟨w5.heap.size, 0, none⟩)]]) 63, blk (w.heap.size) (smc (0) (0) (0)) 23]) () hM.drew ?_ ?_ ?_
      · intro j_ k_ o_ hj_ ho_ π wx hM
        rcases j_ with _ | j_
        · obtain rfl := Option.some.inj hj_
          cases so ho_
          simp only [fullL, Act.put, st_a, st_s, st_0]
          change Ms _ _ _ at hM
          exact gw rfl (g_store_all 23 _ _ (w.heap.size) (smc (0) (0) (0)) _ 23 rfl rfl (hM.get 4 rfl) (szSm _ _ _) (rfl) (one_smc _ _ _) (fun w' t_ b_ => ⟨(), rfl, (fun _ _ _ => by first | rfl | trivial), hM.put 4 rfl t_ b_⟩))
        · simp at hj_
      · intro i_ o_ ho_ hi_ j_ hd_ hh_ hj_ π wx hM
        simp only [fullL, Act.put, st_a, st_s, st_0]
        rcases i_ with _ | _ | _ | _ | i_
        · cases so ho_
          exact gw rfl (g_bldSm_n   ⟨rfl, hM⟩)
        · cases so ho_
          rcases j_ with _ | _ | j_
          · change Ms _ _ _ at hM
            exact gw rfl (g_ld1 25 _ (w5.heap.size) (0) _ rfl (ld25 _ _ _ _ ((hM.get 1 rfl).cell 0 _ (rfl))) ⟨rfl, hM⟩)
          · change Ms _ _ _ at hM
            exact gw rfl (g_ld1 25 _ (w5.heap.size) (0) _ rfl (ld25 _ _ _ _ ((hM.get 1 rfl).cell 0 _ (rfl))) ⟨rfl, hM⟩)
          · exact absurd hj_ (by simp)
        · exact absurd (by decide) hi_
        · cases so ho_
          exact gw rfl (g_assign _ _ rfl ⟨rfl, hM⟩)
        · simp at ho_
      · simp only [fullL, Act.put, st_a, st_s, st_0]
        rintro ⟨⟩ w32 hM
        replace hM : Ms w w32 [blk (w23.heap.size) [.int .i64 (F7), .int .i64 (3)] 25, blk (w5.heap.size) ([.int .i64 (F8)]) 25, blk (p21) (smc (o) (d) (b)) 23, blk (w8.heap.size) ([.func (.func 24) #[] #[.pointer (some ⟨w5.heap.size, 0, none⟩)]]) 63, blk (w.heap.size) (smc (0) (0) (0)) 23] := hM
        refine κ31 _ _ (wp_ret ?_)
        (try simp only [Exit.inBlock, Exit.then])
        exact bodyPost_ret (results_blk_tmp rfl _ (smc (0) (0) (0)) (.int .i64 (F8)) _ rfl rfl (hM.get 4 rfl) Tryd.underlying23 rfl (szSm _ _ _)) rfl ⟨rfl, hM.below⟩
set_option maxHeartbeats 8000000 in
theorem rd_e (t1 t2 t3 t4 r : Int) (w : World) (hr : 0 ≤ r ∧ r ≤ 100000000) (h1 : ¬ t4 < t1) (h2 : ¬ t3 < t2) (i1 : Wd.In64 t1) (i2 : Wd.In64 t2) (i3 : Wd.In64 t3) (i4 : Wd.In64 t4) (p e1 F1 q e2 F2 x e3 F3 y e4 F4 d e5 F5 O T1 o e6 F6 U T2 G Eg b e7 F7 : Int) (ip : Wd.In64 p) (iq : Wd.In64 q) (ix : Wd.In64 x) (iy : Wd.In64 y) (id_ : Wd.In64 d) (iG : Wd.In64 G) (a1 : Hid (Wd.wh (t4 - t1) = (p, e1))) (b1 : fnz [0, 0, e1] = F1) (a2 : Hid (Wd.wh (t3 - t2) = (q, e2))) (b2 : fnz [F1, 0, e2] = F2) (a3 : Hid (Wd.wh (t2 - t1) = (x, e3))) (b3 : fnz [F2, 0, e3] = F3) (a4 : Hid (Wd.wh (t3 - t4) = (y, e4))) (b4 : fnz [F3, 0, e4] = F4) (a5 : Hid (Wd.wh (p - q) = (d, e5))) (b5 : fnz [F4, 0, e5] = F5) (hO : Hid ((x + y) / 2 = O)) (hT1 : Hid ((x + y) % 2 = T1)) (a6 : Hid (Wd.wh O = (o, e6))) (b6 : fnz [F5, 0, e6] = F6) (hU : Hid ((d + 1) / 2 = U)) (hT2 : Hid ((d + 1) % 2 = T2)) (hg : Hid (Wd.grw p (2 * r) = (G, Eg))) (a7 : Hid (Wd.wh (U + G + 2) = (b, e7))) (b7 : fnz [F6, Eg, e7] = F7) (h3 : ¬ d < 0) (h4 : F7 ≠ 0) : Calls Tryd.prog 11 #[.int .i64 t1, .int .i64 t2, .int .i64 t3, .int .i64 t4, .int .i64 r] w fun e w' => e = .returned (.tuple #[.agg (smc (0) (0) (0)).toArray, .int .i64 (F7)]) ∧ Below w.heap.size w w' := by
  have hM := Ms.refl w
  go_enter Tryd.func11, Tryd.ntmps11
  refine wp_seq_k fun _ κ1 => wl_region (wl_give rfl (g_alloc 23 (smc (0) (0) (0)) zeroSm ?_))
  intro w2 t_ b_
  replace hM := hM.new t_ b_
  clear t_ b_
  refine wl_fare kn ?_
  simp (disch := omega) only [fx, pv, kx]
  refine wl_nil (κ1 _ _ ?_)
  refine wp_seq_k fun _ κ3 => wp_seq_k fun _ κ4 => wl_region (wl_fare kn ?_)
  simp (disch := omega) only [fx, pv, kx]
  refine wl_give rfl (g_cM hM (kf23 _ _) (may_y r w2 hr) rfl fun w5 hM => wl_fare kn ?_)
  simp (config := { maxSteps := 10000000 }) (disch := omega) only [fx, pv, kx]
  refine wl_nil (κ4 _ _ ?_)
  refine wp_cond_false rfl (wp_skip ?_)
  refine κ3 _ _ (wp_seq_k fun _ κ6 => ?_)
  refine wl_region (wl_give rfl (g_alloc1 25 (.int .i64 (0)) zeroC25 rfl ?_))
  intro w7 t_ b_
  replace hM := hM.new t_ b_
  clear t_ b_
  try simp only [nz]
  refine wl_give rfl (g_st1 25 _ _ (w5.heap.size) 0 (.int .i64 (0)) _ 25 rfl rfl (hM.get 0 rfl) (show 0 < 1 by decide) rfl rfl size25 fun w8 t_ b_ => ?_)
  replace hM : Ms w w8 [blk (w5.heap.size) ([.int .i64 (0)]) 25, blk (w.heap.size) (smc (0) (0) (0)) 23] := hM.put 0 rfl t_ b_
  clear t_ b_
  try simp only [nz]
  refine wl_nil (κ6 _ _ ?_)
  refine wp_seq_k fun _ κ9 => wl_region (wl_give rfl (g_mkF 24 _ [.pointer (some ⟨w5.heap.size, 0, none⟩)] rfl ?_))
  try simp only [nz]
  refine wl_give rfl (g_alloc1 63 (.nilFunc) zeroC63 rfl fun w10 t_ b_ => ?_)
  replace hM := hM.new t_ b_
  clear t_ b_
  try simp only [nz]
  refine wl_give rfl (g_st1 63 _ _ (w8.heap.size) 0 (.func (.func 24) #[] #[.pointer (some ⟨w5.heap.size, 0, none⟩)]) _ 63 rfl rfl (hM.get 0 rfl) (show 0 < 1 by decide) rfl rfl size63 fun w11 t_ b_ => ?_)
  replace hM : Ms w w11 [blk (w8.heap.size) ([.func (.func 24) #[] #[.pointer (some ⟨w5.heap.size, 0, none⟩)]]) 63, blk (w5.heap.size) ([.int .i64 (0)]) 25, blk (w.heap.size) (smc (0) (0) (0)) 23] := hM.put 0 rfl t_ b_
  clear t_ b_
  try simp only [nz]
  refine wl_nil (κ9 _ _ ?_)
  refine wp_seq_k fun _ κ12 => wl_region (wl_give rfl (g_mkF 27 _ [.pointer (some ⟨w8.heap.size, 0, none⟩)] rfl ?_))
  refine wl_fare kn ?_
  simp (disch := omega) only [fx, pv, kx]
  refine wl_nil (κ12 _ _ ?_)
  refine wp_seq_k fun _ κ13 => wl_region (wl_fare kn ?_)
  simp (config := { maxSteps := 10000000 }) (disch := omega) only [fx, pv, kx]
  refine wl_give rfl (g_callc _ 27 [_, _] _ #[.pointer (some ⟨w8.heap.size, 0, none⟩)] _ rfl (kf27 _ _) rfl ((less_any (t4) (t1) 0 p e1 F1 i4 i1 a1 b1 (show Ms w w11 [blk (w5.heap.size) ([.int .i64 (0)]) 25, blk (w8.heap.size) ([.func (.func 24) #[] #[.pointer (some ⟨w5.heap.size, 0, none⟩)]]) 63, blk (w.heap.size) (smc (0) (0) (0)) 23] from (hM.up 1 rfl))).mono ?_))
  rintro e w14 ⟨rfl, h_⟩
  refine ⟨_, rfl, ?_⟩
  replace hM : Ms w w14 [blk (w5.heap.size) ([.int .i64 (F1)]) 25, blk (w8.heap.size) ([.func (.func 24) #[] #[.pointer (some ⟨w5.heap.size, 0, none⟩)]]) 63, blk (w.heap.size) (smc (0) (0) (0)) 23] := h_
  clear h_
  refine wl_fare kn ?_
  simp (config := { maxSteps := 10000000 }) (disch := omega) only [fx, pv, kx]
  refine wl_give rfl (g_callc _ 27 [_, _] _ #[.pointer (some ⟨w8.heap.size, 0, none⟩)] _ rfl (kf27 _ _) rfl ((less_any (t3) (t2) F1 q e2 F2 i3 i2 a2 b2 (show Ms w w14 [blk (w5.heap.size) ([.int .i64 (F1)]) 25, blk (w8.heap.size) ([.func (.func 24) #[] #[.pointer (some ⟨w5.heap.size, 0, none⟩)]]) 63, blk (w.heap.size) (smc (0) (0) (0)) 23] from ((hM.up 1 rfl).up 1 rfl))).mono ?_))
  rintro e w15 ⟨rfl, h_⟩
  refine ⟨_, rfl, ?_⟩
  replace hM : Ms w w15 [blk (w5.heap.size) ([.int .i64 (F2)]) 25, blk (w8.heap.size) ([.func (.func 24) #[] #[.pointer (some ⟨w5.heap.size, 0, none⟩)]]) 63, blk (w.heap.size) (smc (0) (0) (0)) 23] := h_
  clear h_
  refine wl_fare kn ?_
  simp (config := { maxSteps := 10000000 }) (disch := omega) only [fx, pv, kx]
  refine wl_nil (κ13 _ _ ?_)
  refine wp_seq_k fun _ κ16 => wl_region (wl_fare kn ?_)
  simp (config := { maxSteps := 10000000 }) (disch := omega) only [fx, pv, kx]
  refine wl_give rfl (g_callc _ 27 [_, _] _ #[.pointer (some ⟨w8.heap.size, 0, none⟩)] _ rfl (kf27 _ _) rfl ((less_any (t2) (t1) F2 x e3 F3 i2 i1 a3 b3 (show Ms w w15 [blk (w5.heap.size) ([.int .i64 (F2)]) 25, blk (w8.heap.size) ([.func (.func 24) #[] #[.pointer (some ⟨w5.heap.size, 0, none⟩)]]) 63, blk (w.heap.size) (smc (0) (0) (0)) 23] from ((hM.up 1 rfl).up 1 rfl))).mono ?_))
  rintro e w17 ⟨rfl, h_⟩
  refine ⟨_, rfl, ?_⟩
  replace hM : Ms w w17 [blk (w5.heap.size) ([.int .i64 (F3)]) 25, blk (w8.heap.size) ([.func (.func 24) #[] #[.pointer (some ⟨w5.heap.size, 0, none⟩)]]) 63, blk (w.heap.size) (smc (0) (0) (0)) 23] := h_
  clear h_
  refine wl_fare kn ?_
  simp (config := { maxSteps := 10000000 }) (disch := omega) only [fx, pv, kx]
  refine wl_give rfl (g_callc _ 27 [_, _] _ #[.pointer (some ⟨w8.heap.size, 0, none⟩)] _ rfl (kf27 _ _) rfl ((less_any (t3) (t4) F3 y e4 F4 i3 i4 a4 b4 (show Ms w w17 [blk (w5.heap.size) ([.int .i64 (F3)]) 25, blk (w8.heap.size) ([.func (.func 24) #[] #[.pointer (some ⟨w5.heap.size, 0, none⟩)]]) 63, blk (w.heap.size) (smc (0) (0) (0)) 23] from ((hM.up 1 rfl).up 1 rfl))).mono ?_))
  rintro e w18 ⟨rfl, h_⟩
  refine ⟨_, rfl, ?_⟩
  replace hM : Ms w w18 [blk (w5.heap.size) ([.int .i64 (F4)]) 25, blk (w8.heap.size) ([.func (.func 24) #[] #[.pointer (some ⟨w5.heap.size, 0, none⟩)]]) 63, blk (w.heap.size) (smc (0) (0) (0)) 23] := h_
  clear h_
  refine wl_fare kn ?_
  simp (config := { maxSteps := 10000000 }) (disch := omega) only [fx, pv, kx]
  refine wl_nil (κ16 _ _ ?_)
  refine wp_seq_k fun _ κ19 => ?_
  refine wp_region_poset (by kernel_rfl) (by kernel_rfl) [3, 10, 12, 13] [[], [], [], [], [], [], [], [0], [0], [0], [0], [0, 1], [], [0, 1, 2]] [[0, 3], [0, 3], [0, 3], [3], [1, 3], [3], [3], [1, 3], [1, 3], [1, 3], [3], [3], [3], []] (by kernel_rfl) (Pm := Nat) (fun π => [.func (.func 27) #[] #[.pointer (some ⟨w8.heap.size, 0, none⟩)], .int .i64 (p), .int .i64 (q), .int .i64 (d), .func (.func 24) #[] #[.pointer (some ⟨w5.heap.size, 0, none⟩)], .int .i64 (x), .int .i64 (y), .tuple #[.agg (Wd.nl (O)).toArray, .int .i64 (0)], .agg (Wd.nl (O)).toArray, .int .i64 (0), .int .i64 (o), .agg (smc (o) (d) (0)).toArray, .pointer (some ⟨π, 0, none⟩), undef]) (fun _ => by rfl) (fun F_ π wx => (F_ = [false, false, false, false] ∧ Ms w wx [blk (w5.heap.size) ([.int .i64 (F4)]) 25, blk (w8.heap.size) ([.func (.func 24) #[] #[.pointer (some ⟨w5.heap.size, 0, none⟩)]]) 63, blk (w.heap.size) (smc (0) (0) (0)) 23]) ∨ (F_ = [true, false, false, false] ∧ Ms w wx [blk (w5.heap.size) ([.int .i64 (F5)]) 25, blk (w8.heap.size) ([.func (.func 24) #[] #[.pointer (some ⟨w5.heap.size, 0, none⟩)]]) 63, blk (w.heap.size) (smc (0) (0) (0)) 23]) ∨ (F_ = [false, false, true, false] ∧ Ms w wx [blk (π) (smc (0) (0) (0)) 23, blk (w5.heap.size) ([.int .i64 (F4)]) 25, blk (w8.heap.size) ([.func (.func 24) #[] #[.pointer (some ⟨w5.heap.size, 0, none⟩)]]) 63, blk (w.heap.size) (smc (0) (0) (0)) 23]) ∨ (F_ = [true, true, false, false] ∧ Ms w wx [blk (w5.heap.size) ([.int .i64 (F6)]) 25, blk (w8.heap.size) ([.func (.func 24) #[] #[.pointer (some ⟨w5.heap.size, 0, none⟩)]]) 63, blk (w.heap.size) (smc (0) (0) (0)) 23]) ∨ (F_ = [true, false, true, false] ∧ Ms w wx [blk (π) (smc (0) (0) (0)) 23, blk (w5.heap.size) ([.int .i64 (F5)]) 25, blk (w8.heap.size) ([.func (.func 24) #[] #[.pointer (some ⟨w5.heap.size, 0, none⟩)]]) 63, blk (w.heap.size) (smc (0) (0) (0)) 23]) ∨ (F_ = [true, true, true, false] ∧ Ms w wx [blk (π) (smc (0) (0) (0)) 23, blk (w5.heap.size) ([.int .i64 (F6)]) 25, blk (w8.heap.size) ([.func (.func 24) #[] #[.pointer (some ⟨w5.heap.size, 0, none⟩)]]) 63, blk (w.heap.size) (smc (0) (0) (0)) 23]) ∨ (F_ = [true, true, true, true] ∧ Ms w wx [blk (π) (smc (o) (d) (0)) 23, blk (w5.heap.size) ([.int .i64 (F6)]) 25, blk (w8.heap.size) ([.func (.func 24) #[] #[.pointer (some ⟨w5.heap.size, 0, none⟩)]]) 63, blk (w.heap.size) (smc (0) (0) (0)) 23])) (0) (.inl ⟨rfl, hM.drew⟩) ?_ ?_ ?_
  · intro j_ k_ o_ F_ hj_ ho_ hf_ hn_ π wx hM
    rcases j_ with _ | _ | _ | _ | j_
    · obtain rfl := Option.some.inj hj_
      cases so ho_
      simp only [fullL, Act.put, st_a, st_s, st_0]
      rcases hM with ⟨rfl, hM⟩ | ⟨rfl, hM⟩ | ⟨rfl, hM⟩ | ⟨rfl, hM⟩ | ⟨rfl, hM⟩ | ⟨rfl, hM⟩ | ⟨rfl, hM⟩
      · exact gw rfl (g_callc _ 27 [_, _] _ #[.pointer (some ⟨w8.heap.size, 0, none⟩)] _ rfl (kf27 _ _) rfl ((less_any (p) (q) F4 d e5 F5 ip iq a5 b5 (show Ms w wx [blk (w5.heap.size) ([.int .i64 (F4)]) 25, blk (w8.heap.size) ([.func (.func 24) #[] #[.pointer (some ⟨w5.heap.size, 0, none⟩)]]) 63, blk (w.heap.size) (smc (0) (0) (0)) 23] from ((hM.up 1 rfl).up 1 rfl))).mono (fun e w' ⟨h1_, h2_⟩ => ⟨_, h1_, ⟨(π), rfl, fun i h1 h2 => by rcases i with _ | _ | _ | _ | _ | _ | _ | _ | _ | _ | _ | _ | _ | _ | i <;> first | rfl | trivial | exact absurd rfl h2 | exact absurd (by decide) h1, .inr (.inl ⟨rfl, (((h2_.up 2 rfl).up 2 rfl).up 2 rfl)⟩)⟩⟩)))
      · exact absurd hf_ (by decide)
      · exact gw rfl (g_callc _ 27 [_, _] _ #[.pointer (some ⟨w8.heap.size, 0, none⟩)] _ rfl (kf27 _ _) rfl ((less_any (p) (q) F4 d e5 F5 ip iq a5 b5 (show Ms w wx [blk (w5.heap.size) ([.int .i64 (F4)]) 25, blk (w8.heap.size) ([.func (.func 24) #[] #[.pointer (some ⟨w5.heap.size, 0, none⟩)]]) 63, blk (π) (smc (0) (0) (0)) 23, blk (w.heap.size) (smc (0) (0) (0)) 23] from ((hM.up 2 rfl).up 2 rfl))).mono (fun e w' ⟨h1_, h2_⟩ => ⟨_, h1_, ⟨(π), rfl, fun i h1 h2 => by rcases i with _ | _ | _ | _ | _ | _ | _ | _ | _ | _ | _ | _ | _ | _ | i <;> first | rfl | trivial | exact absurd rfl h2 | exact absurd (by decide) h1, .inr (.inr (.inr (.inr (.inl ⟨rfl, ((((h2_.up 3 rfl).up 2 rfl).up 2 rfl).up 3 rfl)⟩))))⟩⟩)))
      · exact absurd hf_ (by decide)
      · exact absurd hf_ (by decide)
      · exact absurd hf_ (by decide)
      · exact absurd hf_ (by decide)
    · obtain rfl := Option.some.inj hj_
      cases so ho_
      simp only [fullL, Act.put, st_a, st_s, st_0]
      rcases hM with ⟨rfl, hM⟩ | ⟨rfl, hM⟩ | ⟨rfl, hM⟩ | ⟨rfl, hM⟩ | ⟨rfl, hM⟩ | ⟨rfl, hM⟩ | ⟨rfl, hM⟩
      · exact absurd (hn_ 0 (by decide)) (by decide)
      · exact gw rfl (g_callc _ 24 [_, _] _ #[.pointer (some ⟨w5.heap.size, 0, none⟩)] _ rfl (kf24 _ _) rfl ((num_any O 0 F5 o e6 F6 a6 b6 hM).mono (fun e w' ⟨h1_, h2_⟩ => ⟨_, h1_, ⟨(π), rfl, fun i h1 h2 => by rcases i with _ | _ | _ | _ | _ | _ | _ | _ | _ | _ | _ | _ | _ | _ | i <;> first | rfl | trivial | exact absurd rfl h2 | exact absurd (by decide) h1, .inr (.inr (.inr (.inl ⟨rfl, (((h2_.up 2 rfl).up 2 rfl).up 2 rfl)⟩)))⟩⟩)))
      · exact absurd (hn_ 0 (by decide)) (by decide)
      · exact absurd hf_ (by decide)
      · exact gw rfl (g_callc _ 24 [_, _] _ #[.pointer (some ⟨w5.heap.size, 0, none⟩)] _ rfl (kf24 _ _) rfl ((num_any O 0 F5 o e6 F6 a6 b6 (show Ms w wx [blk (w5.heap.size) ([.int .i64 (F5)]) 25, blk (π) (smc (0) (0) (0)) 23, blk (w8.heap.size) ([.func (.func 24) #[] #[.pointer (some ⟨w5.heap.size, 0, none⟩)]]) 63, blk (w.heap.size) (smc (0) (0) (0)) 23] from (hM.up 1 rfl))).mono (fun e w' ⟨h1_, h2_⟩ => ⟨_, h1_, ⟨(π), rfl, fun i h1 h2 => by rcases i with _ | _ | _ | _ | _ | _ | _ | _ | _ | _ | _ | _ | _ | _ | i <;> first | rfl | trivial | exact absurd rfl h2 | exact absurd (by decide) h1, .inr (.inr (.inr (.inr (.inr (.inl ⟨rfl, ((((h2_.up 3 rfl).up 3 rfl).up 2 rfl).up 3 rfl)⟩)))))⟩⟩)))
      · exact absurd hf_ (by decide)
      · exact absurd hf_ (by decide)
    · obtain rfl := Option.some.inj hj_
      cases so ho_
      simp only [fullL, Act.put, st_a, st_s, st_0]
      rcases hM with ⟨rfl, hM⟩ | ⟨rfl, hM⟩ | ⟨rfl, hM⟩ | ⟨rfl, hM⟩ | ⟨rfl, hM⟩ | ⟨rfl, hM⟩ | ⟨rfl, hM⟩
      · exact gw rfl (g_alloc 23 (smc (0) (0) (0)) zeroSm (fun w' t_ b_ => ⟨(wx.heap.size), rfl, fun i h1 h2 => by rcases i with _ | _ | _ | _ | _ | _ | _ | _ | _ | _ | _ | _ | _ | _ | i <;> first | rfl | trivial | exact absurd rfl h2 | exact absurd (by decide) h1, .inr (.inr (.inl ⟨rfl, (((((hM.new t_ b_).up 3 rfl).up 3 rfl).up 3 rfl).up 3 rfl)⟩))⟩))
      · exact gw rfl (g_alloc 23 (smc (0) (0) (0)) zeroSm (fun w' t_ b_ => ⟨(wx.heap.size), rfl, fun i h1 h2 => by rcases i with _ | _ | _ | _ | _ | _ | _ | _ | _ | _ | _ | _ | _ | _ | i <;> first | rfl | trivial | exact absurd rfl h2 | exact absurd (by decide) h1, .inr (.inr (.inr (.inr (.inl ⟨rfl, (((((hM.new t_ b_).up 3 rfl).up 3 rfl).up 3 rfl).up 3 rfl)⟩))))⟩))
      · exact absurd hf_ (by decide)
      · exact gw rfl (g_alloc 23 (smc (0) (0) (0)) zeroSm (fun w' t_ b_ => ⟨(wx.heap.size), rfl, fun i h1 h2 => by rcases i with _ | _ | _ | _ | _ | _ | _ | _ | _ | _ | _ | _ | _ | _ | i <;> first | rfl | trivial | exact absurd rfl h2 | exact absurd (by decide) h1, .inr (.inr (.inr (.inr (.inr (.inl ⟨rfl, (((((hM.new t_ b_).up 3 rfl).up 3 rfl).up 3 rfl).up 3 rfl)⟩)))))⟩))
      · exact absurd hf_ (by decide)
      · exact absurd hf_ (by decide)
      · exact absurd hf_ (by decide)
    · obtain rfl := Option.some.inj hj_
      cases so ho_
      simp only [fullL, Act.put, st_a, st_s, st_0]
      rcases hM with ⟨rfl, hM⟩ | ⟨rfl, hM⟩ | ⟨rfl, hM⟩ | ⟨rfl, hM⟩ | ⟨rfl, hM⟩ | ⟨rfl, hM⟩ | ⟨rfl, hM⟩
      · exact absurd (hn_ 0 (by decide)) (by decide)
      · exact absurd (hn_ 1 (by decide)) (by decide)
      · exact absurd (hn_ 0 (by decide)) (by decide)
      · exact absurd (hn_ 2 (by decide)) (by decide)
      · exact absurd (hn_ 1 (by decide)) (by decide)
      · exact gw rfl (g_store_all 23 _ _ (π) (smc (o) (d) (0)) _ 23 rfl rfl (hM.get 0 rfl) (szSm _ _ _) (rfl) (one_smc _ _ _) (fun w' t_ b_ => ⟨(π), rfl, fun i h1 h2 => by rcases i with _ | _ | _ | _ | _ | _ | _ | _ | _ | _ | _ | _ | _ | _ | i <;> first | rfl | trivial | exact absurd rfl h2 | exact absurd (by decide) h1, .inr (.inr (.inr (.inr (.inr (.inr (⟨rfl, (((((hM.put 0 rfl t_ b_).up 3 rfl).up 3 rfl).up 3 rfl).up 3 rfl)⟩))))))⟩))
      · exact absurd hf_ (by decide)
    · simp at hj_
  · intro i_ o_ F_ ho_ hi_ hd_ hb_ π wx hM
    simp only [fullL, Act.put, st_a, st_s, st_0]
    rcases i_ with _ | _ | _ | _ | _ | _ | _ | _ | _ | _ | _ | _ | _ | _ | i_
    · cases so ho_
      exact gw rfl (g_move _ _ rfl ⟨rfl, hM⟩)
    · cases so ho_
      exact gw rfl (g_move _ _ rfl ⟨rfl, hM⟩)
    · cases so ho_
      exact gw rfl (g_move _ _ rfl ⟨rfl, hM⟩)
    · exact absurd (by decide) hi_
    · cases so ho_
      rcases hM with ⟨rfl, hM⟩ | ⟨rfl, hM⟩ | ⟨rfl, hM⟩ | ⟨rfl, hM⟩ | ⟨rfl, hM⟩ | ⟨rfl, hM⟩ | ⟨rfl, hM⟩
      · exact gw rfl (g_ld1 63 _ (w8.heap.size) (0) _ rfl (ld63 _ _ _ _ ((hM.get 1 rfl).cell 0 _ (rfl))) ⟨rfl, .inl ⟨rfl, hM⟩⟩)
      · exact gw rfl (g_ld1 63 _ (w8.heap.size) (0) _ rfl (ld63 _ _ _ _ ((hM.get 1 rfl).cell 0 _ (rfl))) ⟨rfl, .inr (.inl ⟨rfl, hM⟩)⟩)
      · exact gw rfl (g_ld1 63 _ (w8.heap.size) (0) _ rfl (ld63 _ _ _ _ ((hM.get 2 rfl).cell 0 _ (rfl))) ⟨rfl, .inr (.inr (.inl ⟨rfl, hM⟩))⟩)
      · exact absurd (hb_ 1 (by decide)) (by decide)
      · exact gw rfl (g_ld1 63 _ (w8.heap.size) (0) _ rfl (ld63 _ _ _ _ ((hM.get 2 rfl).cell 0 _ (rfl))) ⟨rfl, .inr (.inr (.inr (.inr (.inl ⟨rfl, hM⟩))))⟩)
      · exact absurd (hb_ 1 (by decide)) (by decide)
      · exact absurd (hb_ 1 (by decide)) (by decide)
    · cases so ho_
      exact gw rfl (g_move _ _ rfl ⟨rfl, hM⟩)
    · cases so ho_
      exact gw rfl (g_move _ _ rfl ⟨rfl, hM⟩)
    · cases so ho_
      rcases hM with ⟨rfl, hM⟩ | ⟨rfl, hM⟩ | ⟨rfl, hM⟩ | ⟨rfl, hM⟩ | ⟨rfl, hM⟩ | ⟨rfl, hM⟩ | ⟨rfl, hM⟩
      · exact absurd (hd_ 0 (by decide)) (by decide)
      · exact gw rfl (g_call 30 _ _ [.int .i64 (x), .int .i64 (y)] (kf30 _ _) rfl ((half_any x y O T1 wx ix iy hO hT1).mono (fun _ _ ⟨h1_, h2_⟩ => ⟨_, h1_, rfl, .inr (.inl ⟨rfl, hM.call h2_⟩)⟩)))
      · exact absurd (hd_ 0 (by decide)) (by decide)
      · exact absurd (hb_ 1 (by decide)) (by decide)
      · exact gw rfl (g_call 30 _ _ [.int .i64 (x), .int .i64 (y)] (kf30 _ _) rfl ((half_any x y O T1 wx ix iy hO hT1).mono (fun _ _ ⟨h1_, h2_⟩ => ⟨_, h1_, rfl, .inr (.inr (.inr (.inr (.inl ⟨rfl, hM.call h2_⟩))))⟩)))
      · exact absurd (hb_ 1 (by decide)) (by decide)
      · exact absurd (hb_ 1 (by decide)) (by decide)
    · cases so ho_
      exact gw rfl (g_extract _ _ _ _ rfl rfl ⟨rfl, hM⟩)
    · cases so ho_
      exact gw rfl (g_extract _ _ _ _ rfl rfl ⟨rfl, hM⟩)
    · exact absurd (by decide) hi_
    · cases so ho_
      exact gw rfl (g_bldSm_10 _ _ (d) (o) rfl rfl ⟨rfl, hM⟩)
    · exact absurd (by decide) hi_
    · exact absurd (by decide) hi_
    · simp at ho_
  · simp only [fullL, Act.put, st_a, st_s, st_0]
    rintro F_ p21 w20 hF_ hM
    subst hF_
    rcases hM with ⟨h_, hM⟩ | ⟨h_, hM⟩ | ⟨h_, hM⟩ | ⟨h_, hM⟩ | ⟨h_, hM⟩ | ⟨h_, hM⟩ | ⟨h_, hM⟩
    · exact absurd h_ (by decide)
    · exact absurd h_ (by decide)
    · exact absurd h_ (by decide)
    · exact absurd h_ (by decide)
    · exact absurd h_ (by decide)
    · exact absurd h_ (by decide)
    clear h_
    replace hM : Ms w w20 [blk (p21) (smc (o) (d) (0)) 23, blk (w5.heap.size) ([.int .i64 (F6)]) 25, blk (w8.heap.size) ([.func (.func 24) #[] #[.pointer (some ⟨w5.heap.size, 0, none⟩)]]) 63, blk (w.heap.size) (smc (0) (0) (0)) 23] := hM
    refine κ19 _ _ (wp_seq_k fun _ κ22 => ?_)
    refine wp_region_steps (by kernel_rfl) (by kernel_rfl) [8, 10] [0, 0, 0, 0, 0, 0, 0, 0, 0, 1, 1] [0, 1, 1, 1, 1, 0, 0, 0, 1, 1, 2] (by kernel_rfl) (Pm := Unit) (fun π => [.func (.func 24) #[] #[.pointer (some ⟨w5.heap.size, 0, none⟩)], .pointer (some ⟨p21, 1, none⟩), .int .i64 (d), .int .i64 (p), .int .i64 (r), .tuple #[.agg (Wd.nl (U + G + 2)).toArray, .int .i64 (Eg)], .agg (Wd.nl (U + G + 2)).toArray, .int .i64 (Eg), .int .i64 (b), .pointer (some ⟨p21, 2, none⟩), undef]) (fun _ => by rfl) (fun j_ π wx => match j_ with | 0 => Ms w wx [blk (p21) (smc (o) (d) (0)) 23, blk (w5.heap.size) ([.int .i64 (F6)]) 25, blk (w8.heap.size) ([.func (.func 24) #[] #[.pointer (some ⟨w5.heap.size, 0, none⟩)]]) 63, blk (w.heap.size) (smc (0) (0) (0)) 23] | 1 => Ms w wx [blk (w5.heap.size) ([.int .i64 (F7)]) 25, blk (p21) (smc (o) (d) (0)) 23, blk (w8.heap.size) ([.func (.func 24) #[] #[.pointer (some ⟨w5.heap.size, 0, none⟩)]]) 63, blk (w.heap.size) (smc (0) (0) (0)) 23] | _ => Ms w wx [blk (w5.heap.size) ([.int .i64 (F7)]) 25, blk (p21) (smc (o) (d) (b)) 23, blk (w8.heap.size) ([.func (.func 24) #[] #[.pointer (some ⟨w5.heap.size, 0, none⟩)]]) 63, blk (w.heap.size) (smc (0) (0) (0)) 23]) () hM.drew ?_ ?_ ?_
    · intro j_ k_ o_ hj_ ho_ π wx hM
      rcases j_ with _ | _ | j_
      · obtain rfl := Option.some.inj hj_
        cases so ho_
        simp only [fullL, Act.put, st_a, st_s, st_0]
        change Ms _ _ _ at hM
        exact gw rfl (g_callc _ 24 [_, _] _ #[.pointer (some ⟨w5.heap.size, 0, none⟩)] _ rfl (kf24 _ _) rfl ((num_any (U + G + 2) Eg F6 b e7 F7 a7 b7 (show Ms w wx [blk (w5.heap.size) ([.int .i64 (F6)]) 25, blk (p21) (smc (o) (d) (0)) 23, blk (w8.heap.size) ([.func (.func 24) #[] #[.pointer (some ⟨w5.heap.size, 0, none⟩)]]) 63, blk (w.heap.size) (smc (0) (0) (0)) 23] from (hM.up 1 rfl))).mono (fun e w' ⟨h1_, h2_⟩ => ⟨_, h1_, ⟨(), rfl, (fun _ _ _ => by first | rfl | trivial), h2_⟩⟩)))
      · obtain rfl := Option.some.inj hj_
        cases so ho_
        simp only [fullL, Act.put, st_a, st_s, st_0]
        change Ms _ _ _ at hM
        exact gw rfl (g_st1 2 _ _ (p21) (2) (.int .i64 (b)) _ 23 rfl rfl (hM.get 1 rfl) (show 2 < 3 by decide) rfl rfl size2 (fun w' t_ b_ => ⟨(), rfl, (fun _ _ _ => by first | rfl | trivial), hM.put 1 rfl t_ b_⟩))
      · simp at hj_
    · intro i_ o_ ho_ hi_ j_ hd_ hh_ hj_ π wx hM
      simp only [fullL, Act.put, st_a, st_s, st_0]
      rcases i_ with _ | _ | _ | _ | _ | _ | _ | _ | _ | _ | _ | i_
      · cases so ho_
        rcases j_ with _ | _ | _ | j_
        · change Ms _ _ _ at hM
          exact gw rfl (g_ld1 63 _ (w8.heap.size) (0) _ rfl (ld63 _ _ _ _ ((hM.get 2 rfl).cell 0 _ (rfl))) ⟨rfl, hM⟩)
        · exact absurd hh_ (by decide)
        · exact absurd hh_ (by decide)
        · exact absurd hj_ (by simp)
      · cases so ho_
        exact gw rfl (g_fa _ _ _ _ _ _ rfl (faSm1 _ _ _) ⟨rfl, hM⟩)
      · cases so ho_
        rcases j_ with _ | _ | _ | j_
        · change Ms _ _ _ at hM
          exact gw rfl (g_ld1 2 _ (p21) (1) _ rfl (ld2 _ _ _ _ ((hM.get 0 rfl).cell (1) _ (rfl))) ⟨rfl, hM⟩)
        · change Ms _ _ _ at hM
          exact gw rfl (g_ld1 2 _ (p21) (1) _ rfl (ld2 _ _ _ _ ((hM.get 1 rfl).cell (1) _ (rfl))) ⟨rfl, hM⟩)
        · exact absurd hh_ (by decide)
        · exact absurd hj_ (by simp)
      · cases so ho_
        exact gw rfl (g_move _ _ rfl ⟨rfl, hM⟩)
      · cases so ho_
        exact gw rfl (g_move _ _ rfl ⟨rfl, hM⟩)
      · cases so ho_
        rcases j_ with _ | _ | _ | j_
        · change Ms _ _ _ at hM
          exact gw rfl (g_call 31 _ _ [.int .i64 (d), .int .i64 (p), .int .i64 (r)] (kf31 _ _) rfl ((bound_any d p r U T2 G Eg wx id_ ip hr hU hT2 hg iG).mono (fun _ _ ⟨h1_, h2_⟩ => ⟨_, h1_, rfl, hM.call h2_⟩)))
        · exact absurd hh_ (by decide)
        · exact absurd hh_ (by decide)
        · exact absurd hj_ (by simp)
      · cases so ho_
        exact gw rfl (g_extract _ _ _ _ rfl rfl ⟨rfl, hM⟩)
      · cases so ho_
        exact gw rfl (g_extract _ _ _ _ rfl rfl ⟨rfl, hM⟩)
      · exact absurd (by decide) hi_
      · cases so ho_
        exact gw rfl (g_fa _ _ _ _ _ _ rfl (faSm2 _ _ _) ⟨rfl, hM⟩)
      · exact absurd (by decide) hi_
      · simp at ho_
    · simp only [fullL, Act.put, st_a, st_s, st_0]
      rintro ⟨⟩ w23 hM
      replace hM : Ms w w23 [blk (w5.heap.size) ([.int .i64 (F7)]) 25, blk (p21) (smc (o) (d) (b)) 23, blk (w8.heap.size) ([.func (.func 24) #[] #[.pointer (some ⟨w5.heap.size, 0, none⟩)]]) 63, blk (w.heap.size) (smc (0) (0) (0)) 23] := hM
      refine κ22 _ _ (wp_seq_k fun _ κ24 => ?_)
      refine wp_seq_k fun _ κ25 => wl_region (wl_fare kn ?_)
      simp (config := { maxSteps := 10000000 }) (disch := omega) only [fx, pv, kx, (hM.get 1 rfl).cell 1 (.int .i64 (d)) rfl]
      refine wl_nil (κ25 _ _ ?_)
      refine wp_cond_false rfl (wp_skip ?_)
      refine κ24 _ _ (wp_seq_k fun _ κ26 => ?_)
      refine wp_seq_k fun _ κ27 => wl_region (wl_give rfl (g_ld1 25 _ (w5.heap.size) (0) _ rfl (ld25 _ _ _ _ ((hM.get 0 rfl).cell 0 _ (rfl))) ?_))
      refine wl_fare kn ?_
      simp (disch := omega) only [fx, pv, kx]
      refine wl_nil (κ27 _ _ ?_)
      refine wp_cond_true rfl (wp_seq_k fun _ κ28 => ?_)
      refine wp_region_steps (by kernel_rfl) (by kernel_rfl) [2] [0, 0, 0, 1] [0, 1, 1, 1] (by kernel_rfl) (Pm := Unit) (fun π => [.agg (smc (0) (0) (0)).toArray, .int .i64 (F7), undef, .int .i64 (F7)]) (fun _ => by rfl) (fun j_ π wx => match j_ with | 0 => Ms w wx [blk (w5.heap.size) ([.int .i64 (F7)]) 25, blk (p21) (smc (o) (d) (b)) 23, blk (w8.heap.size) ([.func (.func 24) #[] #[.pointer (some ⟨w5.heap.size, 0, none⟩)]]) 63, blk (w.heap.size) (smc (0) (0) (0)) 23] | _ => Ms w wx [blk (w5.heap.size) ([.int .i64 (F7)]) 25, blk (p21) (smc (o) (d) (b)) 23, blk (w8.heap.size) ([.func (.func 24) #[] #[.pointer (some ⟨w5.heap.size, 0, none⟩)]]) 63, blk (w.heap.size) (smc (0) (0) (0)) 23]) () hM.drew ?_ ?_ ?_
      · intro j_ k_ o_ hj_ ho_ π wx hM
        rcases j_ with _ | j_
        · obtain rfl := Option.some.inj hj_
          cases so ho_
          simp only [fullL, Act.put, st_a, st_s, st_0]
          change Ms _ _ _ at hM
          exact gw rfl (g_store_all 23 _ _ (w.heap.size) (smc (0) (0) (0)) _ 23 rfl rfl (hM.get 3 rfl) (szSm _ _ _) (rfl) (one_smc _ _ _) (fun w' t_ b_ => ⟨(), rfl, (fun _ _ _ => by first | rfl | trivial), hM.put 3 rfl t_ b_⟩))
        · simp at hj_
      · intro i_ o_ ho_ hi_ j_ hd_ hh_ hj_ π wx hM
        simp only [fullL, Act.put, st_a, st_s, st_0]
        rcases i_ with _ | _ | _ | _ | i_
        · cases so ho_
          exact gw rfl (g_bldSm_n   ⟨rfl, hM⟩)
        · cases so ho_
          rcases j_ with _ | _ | j_
          · change Ms _ _ _ at hM
            exact gw rfl (g_ld1 25 _ (w5.heap.size) (0) _ rfl (ld25 _ _ _ _ ((hM.get 0 rfl).cell 0 _ (rfl))) ⟨rfl, hM⟩)
          · change Ms _ _ _ at hM
            exact gw rfl (g_ld1 25 _ (w5.heap.size) (0) _ rfl (ld25 _ _ _ _ ((hM.get 0 rfl).cell 0 _ (rfl))) ⟨rfl, hM⟩)
          · exact absurd hj_ (by simp)
        · exact absurd (by decide) hi_
        · cases so ho_
          exact gw rfl (g_assign _ _ rfl ⟨rfl, hM⟩)
        · simp at ho_
      · simp only [fullL, Act.put, st_a, st_s, st_0]
        rintro ⟨⟩ w29 hM
        replace hM : Ms w w29 [blk (w5.heap.size) ([.int .i64 (F7)]) 25, blk (p21) (smc (o) (d) (b)) 23, blk (w8.heap.size) ([.func (.func 24) #[] #[.pointer (some ⟨w5.heap.size, 0, none⟩)]]) 63, blk (w.heap.size) (smc (0) (0) (0)) 23] := hM
        refine κ28 _ _ (wp_ret ?_)
        (try simp only [Exit.inBlock, Exit.then])
        exact bodyPost_ret (results_blk_tmp rfl _ (smc (0) (0) (0)) (.int .i64 (F7)) _ rfl rfl (hM.get 3 rfl) Tryd.underlying23 rfl (szSm _ _ _)) rfl ⟨rfl, hM.below⟩
set_option maxHeartbeats 8000000 in
theorem rd_f (t1 t2 t3 t4 r : Int) (w : World) (hr : 0 ≤ r ∧ r ≤ 100000000) (h1 : ¬ t4 < t1) (h2 : ¬ t3 < t2) (i1 : Wd.In64 t1) (i2 : Wd.In64 t2) (i3 : Wd.In64 t3) (i4 : Wd.In64 t4) (p e1 F1 q e2 F2 x e3 F3 y e4 F4 d e5 F5 O T1 o e6 F6 U T2 G Eg b e7 F7 : Int) (ip : Wd.In64 p) (iq : Wd.In64 q) (ix : Wd.In64 x) (iy : Wd.In64 y) (id_ : Wd.In64 d) (iG : Wd.In64 G) (a1 : Hid (Wd.wh (t4 - t1) = (p, e1))) (b1 : fnz [0, 0, e1] = F1) (a2 : Hid (Wd.wh (t3 - t2) = (q, e2))) (b2 : fnz [F1, 0, e2] = F2) (a3 : Hid (Wd.wh (t2 - t1) = (x, e3))) (b3 : fnz [F2, 0, e3] = F3) (a4 : Hid (Wd.wh (t3 - t4) = (y, e4))) (b4 : fnz [F3, 0, e4] = F4) (a5 : Hid (Wd.wh (p - q) = (d, e5))) (b5 : fnz [F4, 0, e5] = F5) (hO : Hid ((x + y) / 2 = O)) (hT1 : Hid ((x + y) % 2 = T1)) (a6 : Hid (Wd.wh O = (o, e6))) (b6 : fnz [F5, 0, e6] = F6) (hU : Hid ((d + 1) / 2 = U)) (hT2 : Hid ((d + 1) % 2 = T2)) (hg : Hid (Wd.grw p (2 * r) = (G, Eg))) (a7 : Hid (Wd.wh (U + G + 2) = (b, e7))) (b7 : fnz [F6, Eg, e7] = F7) (h3 : ¬ d < 0) (h4 : F7 = 0) : Calls Tryd.prog 11 #[.int .i64 t1, .int .i64 t2, .int .i64 t3, .int .i64 t4, .int .i64 r] w fun e w' => e = .returned (.tuple #[.agg (smc (o) (d) (b)).toArray, .int .i64 (0)]) ∧ Below w.heap.size w w' := by
  have hM := Ms.refl w
  go_enter Tryd.func11, Tryd.ntmps11
  refine wp_seq_k fun _ κ1 => wl_region (wl_give rfl (g_alloc 23 (smc (0) (0) (0)) zeroSm ?_))
  intro w2 t_ b_
  replace hM := hM.new t_ b_
  clear t_ b_
  refine wl_fare kn ?_
  simp (disch := omega) only [fx, pv, kx]
  refine wl_nil (κ1 _ _ ?_)
  refine wp_seq_k fun _ κ3 => wp_seq_k fun _ κ4 => wl_region (wl_fare kn ?_)
  simp (disch := omega) only [fx, pv, kx]
  refine wl_give rfl (g_cM hM (kf23 _ _) (may_y r w2 hr) rfl fun w5 hM => wl_fare kn ?_)
  simp (config := { maxSteps := 10000000 }) (disch := omega) only [fx, pv, kx]
  refine wl_nil (κ4 _ _ ?_)
  refine wp_cond_false rfl (wp_skip ?_)
  refine κ3 _ _ (wp_seq_k fun _ κ6 => ?_)
  refine wl_region (wl_give rfl (g_alloc1 25 (.int .i64 (0)) zeroC25 rfl ?_))
  intro w7 t_ b_
  replace hM := hM.new t_ b_
  clear t_ b_
  try simp only [nz]
  refine wl_give rfl (g_st1 25 _ _ (w5.heap.size) 0 (.int .i64 (0)) _ 25 rfl rfl (hM.get 0 rfl) (show 0 < 1 by decide) rfl rfl size25 fun w8 t_ b_ => ?_)
  replace hM : Ms w w8 [blk (w5.heap.size) ([.int .i64 (0)]) 25, blk (w.heap.size) (smc (0) (0) (0)) 23] := hM.put 0 rfl t_ b_
  clear t_ b_
  try simp only [nz]
  refine wl_nil (κ6 _ _ ?_)
  refine wp_seq_k fun _ κ9 => wl_region (wl_give rfl (g_mkF 24 _ [.pointer (some ⟨w5.heap.size, 0, none⟩)] rfl ?_))
  try simp only [nz]
  refine wl_give rfl (g_alloc1 63 (.nilFunc) zeroC63 rfl fun w10 t_ b_ => ?_)
  replace hM := hM.new t_ b_
  clear t_ b_
  try simp only [nz]
  refine wl_give rfl (g_st1 63 _ _ (w8.heap.size) 0 (.func (.func 24) #[] #[.pointer (some ⟨w5.heap.size, 0, none⟩)]) _ 63 rfl rfl (hM.get 0 rfl) (show 0 < 1 by decide) rfl rfl size63 fun w11 t_ b_ => ?_)
  replace hM : Ms w w11 [blk (w8.heap.size) ([.func (.func 24) #[] #[.pointer (some ⟨w5.heap.size, 0, none⟩)]]) 63, blk (w5.heap.size) ([.int .i64 (0)]) 25, blk (w.heap.size) (smc (0) (0) (0)) 23] := hM.put 0 rfl t_ b_
  clear t_ b_
  try simp only [nz]
  refine wl_nil (κ9 _ _ ?_)
  refine wp_seq_k fun _ κ12 => wl_region (wl_give rfl (g_mkF 27 _ [.pointer (some ⟨w8.heap.size, 0, none⟩)] rfl ?_))
  refine wl_fare kn ?_
  simp (disch := omega) only [fx, pv, kx]
  refine wl_nil (κ12 _ _ ?_)
  refine wp_seq_k fun _ κ13 => wl_region (wl_fare kn ?_)
  simp (config := { maxSteps := 10000000 }) (disch := omega) only [fx, pv, kx]
  refine wl_give rfl (g_callc _ 27 [_, _] _ #[.pointer (some ⟨w8.heap.size, 0, none⟩)] _ rfl (kf27 _ _) rfl ((less_any (t4) (t1) 0 p e1 F1 i4 i1 a1 b1 (show Ms w w11 [blk (w5.heap.size) ([.int .i64 (0)]) 25, blk (w8.heap.size) ([.func (.func 24) #[] #[.pointer (some ⟨w5.heap.size, 0, none⟩)]]) 63, blk (w.heap.size) (smc (0) (0) (0)) 23] from (hM.up 1 rfl))).mono ?_))
  rintro e w14 ⟨rfl, h_⟩
  refine ⟨_, rfl, ?_⟩
  replace hM : Ms w w14 [blk (w5.heap.size) ([.int .i64 (F1)]) 25, blk (w8.heap.size) ([.func (.func 24) #[] #[.pointer (some ⟨w5.heap.size, 0, none⟩)]]) 63, blk (w.heap.size) (smc (0) (0) (0)) 23] := h_
  clear h_
  refine wl_fare kn ?_
  simp (config := { maxSteps := 10000000 }) (disch := omega) only [fx, pv, kx]
  refine wl_give rfl (g_callc _ 27 [_, _] _ #[.pointer (some ⟨w8.heap.size, 0, none⟩)] _ rfl (kf27 _ _) rfl ((less_any (t3) (t2) F1 q e2 F2 i3 i2 a2 b2 (show Ms w w14 [blk (w5.heap.size) ([.int .i64 (F1)]) 25, blk (w8.heap.size) ([.func (.func 24) #[] #[.pointer (some ⟨w5.heap.size, 0, none⟩)]]) 63, blk (w.heap.size) (smc (0) (0) (0)) 23] from ((hM.up 1 rfl).up 1 rfl))).mono ?_))
  rintro e w15 ⟨rfl, h_⟩
  refine ⟨_, rfl, ?_⟩
  replace hM : Ms w w15 [blk (w5.heap.size) ([.int .i64 (F2)]) 25, blk (w8.heap.size) ([.func (.func 24) #[] #[.pointer (some ⟨w5.heap.size, 0, none⟩)]]) 63, blk (w.heap.size) (smc (0) (0) (0)) 23] := h_
  clear h_
  refine wl_fare kn ?_
  simp (config := { maxSteps := 10000000 }) (disch := omega) only [fx, pv, kx]
  refine wl_nil (κ13 _ _ ?_)
  refine wp_seq_k fun _ κ16 => wl_region (wl_fare kn ?_)
  simp (config := { maxSteps := 10000000 }) (disch := omega) only [fx, pv, kx]
  refine wl_give rfl (g_callc _ 27 [_, _] _ #[.pointer (some ⟨w8.heap.size, 0, none⟩)] _ rfl (kf27 _ _) rfl ((less_any (t2) (t1) F2 x e3 F3 i2 i1 a3 b3 (show Ms w w15 [blk (w5.heap.size) ([.int .i64 (F2)]) 25, blk (w8.heap.size) ([.func (.func 24) #[] #[.pointer (some ⟨w5.heap.size, 0, none⟩)]]) 63, blk (w.heap.size) (smc (0) (0) (0)) 23] from ((hM.up 1 rfl).up 1 rfl))).mono ?_))
  rintro e w17 ⟨rfl, h_⟩
  refine ⟨_, rfl, ?_⟩
  replace hM : Ms w w17 [blk (w5.heap.size) ([.int .i64 (F3)]) 25, blk (w8.heap.size) ([.func (.func 24) #[] #[.pointer (some ⟨w5.heap.size, 0, none⟩)]]) 63, blk (w.heap.size) (smc (0) (0) (0)) 23] := h_
  clear h_
  refine wl_fare kn ?_
  simp (config := { maxSteps := 10000000 }) (disch := omega) only [fx, pv, kx]
  refine wl_give rfl (g_callc _ 27 [_, _] _ #[.pointer (some ⟨w8.heap.size, 0, none⟩)] _ rfl (kf27 _ _) rfl ((less_any (t3) (t4) F3 y e4 F4 i3 i4 a4 b4 (show Ms w w17 [blk (w5.heap.size) ([.int .i64 (F3)]) 25, blk (w8.heap.size) ([.func (.func 24) #[] #[.pointer (some ⟨w5.heap.size, 0, none⟩)]]) 63, blk (w.heap.size) (smc (0) (0) (0)) 23] from ((hM.up 1 rfl).up 1 rfl))).mono ?_))
  rintro e w18 ⟨rfl, h_⟩
  refine ⟨_, rfl, ?_⟩
  replace hM : Ms w w18 [blk (w5.heap.size) ([.int .i64 (F4)]) 25, blk (w8.heap.size) ([.func (.func 24) #[] #[.pointer (some ⟨w5.heap.size, 0, none⟩)]]) 63, blk (w.heap.size) (smc (0) (0) (0)) 23] := h_
  clear h_
  refine wl_fare kn ?_
  simp (config := { maxSteps := 10000000 }) (disch := omega) only [fx, pv, kx]
  refine wl_nil (κ16 _ _ ?_)
  refine wp_seq_k fun _ κ19 => ?_
  refine wp_region_poset (by kernel_rfl) (by kernel_rfl) [3, 10, 12, 13] [[], [], [], [], [], [], [], [0], [0], [0], [0], [0, 1], [], [0, 1, 2]] [[0, 3], [0, 3], [0, 3], [3], [1, 3], [3], [3], [1, 3], [1, 3], [1, 3], [3], [3], [3], []] (by kernel_rfl) (Pm := Nat) (fun π => [.func (.func 27) #[] #[.pointer (some ⟨w8.heap.size, 0, none⟩)], .int .i64 (p), .int .i64 (q), .int .i64 (d), .func (.func 24) #[] #[.pointer (some ⟨w5.heap.size, 0, none⟩)], .int .i64 (x), .int .i64 (y), .tuple #[.agg (Wd.nl (O)).toArray, .int .i64 (0)], .agg (Wd.nl (O)).toArray, .int .i64 (0), .int .i64 (o), .agg (smc (o) (d) (0)).toArray, .pointer (some ⟨π, 0, none⟩), undef]) (fun _ => by rfl) (fun F_ π wx => (F_ = [false, false, false, false] ∧ Ms w wx [blk (w5.heap.size) ([.int .i64 (F4)]) 25, blk (w8.heap.size) ([.func (.func 24) #[] #[.pointer (some ⟨w5.heap.size, 0, none⟩)]]) 63, blk (w.heap.size) (smc (0) (0) (0)) 23]) ∨ (F_ = [true, false, false, false] ∧ Ms w wx [blk (w5.heap.size) ([.int .i64 (F5)]) 25, blk (w8.heap.size) ([.func (.func 24) #[] #[.pointer (some ⟨w5.heap.size, 0, none⟩)]]) 63, blk (w.heap.size) (smc (0) (0) (0)) 23]) ∨ (F_ = [false, false, true, false] ∧ Ms w wx [blk (π) (smc (0) (0) (0)) 23, blk (w5.heap.size) ([.int .i64 (F4)]) 25, blk (w8.heap.size) ([.func (.func 24) #[] #[.pointer (some ⟨w5.heap.size, 0, none⟩)]]) 63, blk (w.heap.size) (smc (0) (0) (0)) 23]) ∨ (F_ = [true, true, false, false] ∧ Ms w wx [blk (w5.heap.size) ([.int .i64 (F6)]) 25, blk (w8.heap.size) ([.func (.func 24) #[] #[.pointer (some ⟨w5.heap.size, 0, none⟩)]]) 63, blk (w.heap.size) (smc (0) (0) (0)) 23]) ∨ (F_ = [true, false, true, false] ∧ Ms w wx [blk (π) (smc (0) (0) (0)) 23, blk (w5.heap.size) ([.int .i64 (F5)]) 25, blk (w8.heap.size) ([.func (.func 24) #[] #[.pointer (some ⟨w5.heap.size, 0, none⟩)]]) 63, blk (w.heap.size) (smc (0) (0) (0)) 23]) ∨ (F_ = [true, true, true, false] ∧ Ms w wx [blk (π) (smc (0) (0) (0)) 23, blk (w5.heap.size) ([.int .i64 (F6)]) 25, blk (w8.heap.size) ([.func (.func 24) #[] #[.pointer (some ⟨w5.heap.size, 0, none⟩)]]) 63, blk (w.heap.size) (smc (0) (0) (0)) 23]) ∨ (F_ = [true, true, true, true] ∧ Ms w wx [blk (π) (smc (o) (d) (0)) 23, blk (w5.heap.size) ([.int .i64 (F6)]) 25, blk (w8.heap.size) ([.func (.func 24) #[] #[.pointer (some ⟨w5.heap.size, 0, none⟩)]]) 63, blk (w.heap.size) (smc (0) (0) (0)) 23])) (0) (.inl ⟨rfl, hM.drew⟩) ?_ ?_ ?_
  · intro j_ k_ o_ F_ hj_ ho_ hf_ hn_ π wx hM
    rcases j_ with _ | _ | _ | _ | j_
    · obtain rfl := Option.some.inj hj_
      cases so ho_
      simp only [fullL, Act.put, st_a, st_s, st_0]
      rcases hM with ⟨rfl, hM⟩ | ⟨rfl, hM⟩ | ⟨rfl, hM⟩ | ⟨rfl, hM⟩ | ⟨rfl, hM⟩ | ⟨rfl, hM⟩ | ⟨rfl, hM⟩
      · exact gw rfl (g_callc _ 27 [_, _] _ #[.pointer (some ⟨w8.heap.size, 0, none⟩)] _ rfl (kf27 _ _) rfl ((less_any (p) (q) F4 d e5 F5 ip iq a5 b5 (show Ms w wx [blk (w5.heap.size) ([.int .i64 (F4)]) 25, blk (w8.heap.size) ([.func (.func 24) #[] #[.pointer (some ⟨w5.heap.size, 0, none⟩)]]) 63, blk (w.heap.size) (smc (0) (0) (0)) 23] from ((hM.up 1 rfl).up 1 rfl))).mono (fun e w' ⟨h1_, h2_⟩ => ⟨_, h1_, ⟨(π), rfl, fun i h1 h2 => by rcases i with _ | _ | _ | _ | _ | _ | _ | _ | _ | _ | _ | _ | _ | _ | i <;> first | rfl | trivial | exact absurd rfl h2 | exact absurd (by decide) h1, .inr (.inl ⟨rfl, (((h2_.up 2 rfl).up 2 rfl).up 2 rfl)⟩)⟩⟩)))
      · exact absurd hf_ (by decide)
      · exact gw rfl (g_callc _ 27 [_, _] _ #[.pointer (some ⟨w8.heap.size, 0, none⟩)] _ rfl (kf27 _ _) rfl ((less_any (p) (q) F4 d e5 F5 ip iq a5 b5 (show Ms w wx [blk (w5.heap.size) ([.int .i64 (F4)]) 25, blk (w8.heap.size) ([.func (.func 24) #[] #[.pointer (some ⟨w5.heap.size, 0, none⟩)]]) 63, blk (π) (smc (0) (0) (0)) 23, blk (w.heap.size) (smc (0) (0) (0)) 23] from ((hM.up 2 rfl).up 2 rfl))).mono (fun e w' ⟨h1_, h2_⟩ => ⟨_, h1_, ⟨(π), rfl, fun i h1 h2 => by rcases i with _ | _ | _ | _ | _ | _ | _ | _ | _ | _ | _ | _ | _ | _ | i <;> first | rfl | trivial | exact absurd rfl h2 | exact absurd (by decide) h1, .inr (.inr (.inr (.inr (.inl ⟨rfl, ((((h2_.up 3 rfl).up 2 rfl).up 2 rfl).up 3 rfl)⟩))))⟩⟩)))
      · exact absurd hf_ (by decide)
      · exact absurd hf_ (by decide)
      · exact absurd hf_ (by decide)
      · exact absurd hf_ (by decide)
    · obtain rfl := Option.some.inj hj_
      cases so ho_
      simp only [fullL, Act.put, st_a, st_s, st_0]
      rcases hM with ⟨rfl, hM⟩ | ⟨rfl, hM⟩ | ⟨rfl, hM⟩ | ⟨rfl, hM⟩ | ⟨rfl, hM⟩ | ⟨rfl, hM⟩ | ⟨rfl, hM⟩
      · exact absurd (hn_ 0 (by decide)) (by decide)
      · exact gw rfl (g_callc _ 24 [_, _] _ #[.pointer (some ⟨w5.heap.size, 0, none⟩)] _ rfl (kf24 _ _) rfl ((num_any O 0 F5 o e6 F6 a6 b6 hM).mono (fun e w' ⟨h1_, h2_⟩ => ⟨_, h1_, ⟨(π), rfl, fun i h1 h2 => by rcases i with _ | _ | _ | _ | _ | _ | _ | _ | _ | _ | _ | _ | _ | _ | i <;> first | rfl | trivial | exact absurd rfl h2 | exact absurd (by decide) h1, .inr (.inr (.inr (.inl ⟨rfl, (((h2_.up 2 rfl).up 2 rfl).up 2 rfl)⟩)))⟩⟩)))
      · exact absurd (hn_ 0 (by decide)) (by decide)
      · exact absurd hf_ (by decide)
      · exact gw rfl (g_callc _ 24 [_, _] _ #[.pointer (some ⟨w5.heap.size, 0, none⟩)] _ rfl (kf24 _ _) rfl ((num_any O 0 F5 o e6 F6 a6 b6 (show Ms w wx [blk (w5.heap.size) ([.int .i64 (F5)]) 25, blk (π) (smc (0) (0) (0)) 23, blk (w8.heap.size) ([.func (.func 24) #[] #[.pointer (some ⟨w5.heap.size, 0, none⟩)]]) 63, blk (w.heap.size) (smc (0) (0) (0)) 23] from (hM.up 1 rfl))).mono (fun e w' ⟨h1_, h2_⟩ => ⟨_, h1_, ⟨(π), rfl, fun i h1 h2 => by rcases i with _ | _ | _ | _ | _ | _ | _ | _ | _ | _ | _ | _ | _ | _ | i <;> first | rfl | trivial | exact absurd rfl h2 | exact absurd (by decide) h1, .inr (.inr (.inr (.inr (.inr (.inl ⟨rfl, ((((h2_.up 3 rfl).up 3 rfl).up 2 rfl).up 3 rfl)⟩)))))⟩⟩)))
      · exact absurd hf_ (by decide)
      · exact absurd hf_ (by decide)
    · obtain rfl := Option.some.inj hj_
      cases so ho_
      simp only [fullL, Act.put, st_a, st_s, st_0]
      rcases hM with ⟨rfl, hM⟩ | ⟨rfl, hM⟩ | ⟨rfl, hM⟩ | ⟨rfl, hM⟩ | ⟨rfl, hM⟩ | ⟨rfl, hM⟩ | ⟨rfl, hM⟩
      · exact gw rfl (g_alloc 23 (smc (0) (0) (0)) zeroSm (fun w' t_ b_ => ⟨(wx.heap.size), rfl, fun i h1 h2 => by rcases i with _ | _ | _ | _ | _ | _ | _ | _ | _ | _ | _ | _ | _ | _ | i <;> first | rfl | trivial | exact absurd rfl h2 | exact absurd (by decide) h1, .inr (.inr (.inl ⟨rfl, (((((hM.new t_ b_).up 3 rfl).up 3 rfl).up 3 rfl).up 3 rfl)⟩))⟩))
      · exact gw rfl (g_alloc 23 (smc (0) (0) (0)) zeroSm (fun w' t_ b_ => ⟨(wx.heap.size), rfl, fun i h1 h2 => by rcases i with _ | _ | _ | _ | _ | _ | _ | _ | _ | _ | _ | _ | _ | _ | i <;> first | rfl | trivial | exact absurd rfl h2 | exact absurd (by decide) h1, .inr (.inr (.inr (.inr (.inl ⟨rfl, (((((hM.new t_ b_).up 3 rfl).up 3 rfl).up 3 rfl).up 3 rfl)⟩))))⟩))
      · exact absurd hf_ (by decide)
      · exact gw rfl (g_alloc 23 (smc (0) (0) (0)) zeroSm (fun w' t_ b_ => ⟨(wx.heap.size), rfl, fun i h1 h2 => by rcases i with _ | _ | _ | _ | _ | _ | _ | _ | _ | _ | _ | _ | _ | _ | i <;> first | rfl | trivial | exact absurd rfl h2 | exact absurd (by decide) h1, .inr (.inr (.inr (.inr (.inr (.inl ⟨rfl, (((((hM.new t_ b_).up 3 rfl).up 3 rfl).up 3 rfl).up 3 rfl)⟩)))))⟩))
      · exact absurd hf_ (by decide)
      · exact absurd hf_ (by decide)
      · exact absurd hf_ (by decide)
    · obtain rfl := Option.some.inj hj_
      cases so ho_
      simp only [fullL, Act.put, st_a, st_s, st_0]
      rcases hM with ⟨rfl, hM⟩ | ⟨rfl, hM⟩ | ⟨rfl, hM⟩ | ⟨rfl, hM⟩ | ⟨rfl, hM⟩ | ⟨rfl, hM⟩ | ⟨rfl, hM⟩
      · exact absurd (hn_ 0 (by decide)) (by decide)
      · exact absurd (hn_ 1 (by decide)) (by decide)
      · exact absurd (hn_ 0 (by decide)) (by decide)
      · exact absurd (hn_ 2 (by decide)) (by decide)
      · exact absurd (hn_ 1 (by decide)) (by decide)
      · exact gw rfl (g_store_all 23 _ _ (π) (smc (o) (d) (0)) _ 23 rfl rfl (hM.get 0 rfl) (szSm _ _ _) (rfl) (one_smc _ _ _) (fun w' t_ b_ => ⟨(π), rfl, fun i h1 h2 => by rcases i with _ | _ | _ | _ | _ | _ | _ | _ | _ | _ | _ | _ | _ | _ | i <;> first | rfl | trivial | exact absurd rfl h2 | exact absurd (by decide) h1, .inr (.inr (.inr (.inr (.inr (.inr (⟨rfl, (((((hM.put 0 rfl t_ b_).up 3 rfl).up 3 rfl).up 3 rfl).up 3 rfl)⟩))))))⟩))
      · exact absurd hf_ (by decide)
    · simp at hj_
  · intro i_ o_ F_ ho_ hi_ hd_ hb_ π wx hM
    simp only [fullL, Act.put, st_a, st_s, st_0]
    rcases i_ with _ | _ | _ | _ | _ | _ | _ | _ | _ | _ | _ | _ | _ | _ | i_
    · cases so ho_
      exact gw rfl (g_move _ _ rfl ⟨rfl, hM⟩)
    · cases so ho_
      exact gw rfl (g_move _ _ rfl ⟨rfl, hM⟩)
    · cases so ho_
      exact gw rfl (g_move _ _ rfl ⟨rfl, hM⟩)
    · exact absurd (by decide) hi_
    · cases so ho_
      rcases hM with ⟨rfl, hM⟩ | ⟨rfl, hM⟩ | ⟨rfl, hM⟩ | ⟨rfl, hM⟩ | ⟨rfl, hM⟩ | ⟨rfl, hM⟩ | ⟨rfl, hM⟩
      · exact gw rfl (g_ld1 63 _ (w8.heap.size) (0) _ rfl (ld63 _ _ _ _ ((hM.get 1 rfl).cell 0 _ (rfl))) ⟨rfl, .inl ⟨rfl, hM⟩⟩)
      · exact gw rfl (g_ld1 63 _ (w8.heap.size) (0) _ rfl (ld63 _ _ _ _ ((hM.get 1 rfl).cell 0 _ (rfl))) ⟨rfl, .inr (.inl ⟨rfl, hM⟩)⟩)
      · exact gw rfl (g_ld1 63 _ (w8.heap.size) (0) _ rfl (ld63 _ _ _ _ ((hM.get 2 rfl).cell 0 _ (rfl))) ⟨rfl, .inr (.inr (.inl ⟨rfl, hM⟩))⟩)
      · exact absurd (hb_ 1 (by decide)) (by decide)
      · exact gw rfl (g_ld1 63 _ (w8.heap.size) (0) _ rfl (ld63 _ _ _ _ ((hM.get 2 rfl).cell 0 _ (rfl))) ⟨rfl, .inr (.inr (.inr (.inr (.inl ⟨rfl, hM⟩))))⟩)
      · exact absurd (hb_ 1 (by decide)) (by decide)
      · exact absurd (hb_ 1 (by decide)) (by decide)
    · cases so ho_
      exact gw rfl (g_move _ _ rfl ⟨rfl, hM⟩)
    · cases so ho_
      exact gw rfl (g_move _ _ rfl ⟨rfl, hM⟩)
    · cases so ho_
      rcases hM with ⟨rfl, hM⟩ | ⟨rfl, hM⟩ | ⟨rfl, hM⟩ | ⟨rfl, hM⟩ | ⟨rfl, hM⟩ | ⟨rfl, hM⟩ | ⟨rfl, hM⟩
      · exact absurd (hd_ 0 (by decide)) (by decide)
      · exact gw rfl (g_call 30 _ _ [.int .i64 (x), .int .i64 (y)] (kf30 _ _) rfl ((half_any x y O T1 wx ix iy hO hT1).mono (fun _ _ ⟨h1_, h2_⟩ => ⟨_, h1_, rfl, .inr (.inl ⟨rfl, hM.call h2_⟩)⟩)))
      · exact absurd (hd_ 0 (by decide)) (by decide)
      · exact absurd (hb_ 1 (by decide)) (by decide)
      · exact gw rfl (g_call 30 _ _ [.int .i64 (x), .int .i64 (y)] (kf30 _ _) rfl ((half_any x y O T1 wx ix iy hO hT1).mono (fun _ _ ⟨h1_, h2_⟩ => ⟨_, h1_, rfl, .inr (.inr (.inr (.inr (.inl ⟨rfl, hM.call h2_⟩))))⟩)))
      · exact absurd (hb_ 1 (by decide)) (by decide)
      · exact absurd (hb_ 1 (by decide)) (by decide)
    · cases so ho_
      exact gw rfl (g_extract _ _ _ _ rfl rfl ⟨rfl, hM⟩)
    · cases so ho_
      exact gw rfl (g_extract _ _ _ _ rfl rfl ⟨rfl, hM⟩)
    · exact absurd (by decide) hi_
    · cases so ho_
      exact gw rfl (g_bldSm_10 _ _ (d) (o) rfl rfl ⟨rfl, hM⟩)
    · exact absurd (by decide) hi_
    · exact absurd (by decide) hi_
    · simp at ho_
  · simp only [fullL, Act.put, st_a, st_s, st_0]
    rintro F_ p21 w20 hF_ hM
    subst hF_
    rcases hM with ⟨h_, hM⟩ | ⟨h_, hM⟩ | ⟨h_, hM⟩ | ⟨h_, hM⟩ | ⟨h_, hM⟩ | ⟨h_, hM⟩ | ⟨h_, hM⟩
    · exact absurd h_ (by decide)
    · exact absurd h_ (by decide)
    · exact absurd h_ (by decide)
    · exact absurd h_ (by decide)
    · exact absurd h_ (by decide)
    · exact absurd h_ (by decide)
    clear h_
    replace hM : Ms w w20 [blk (p21) (smc (o) (d) (0)) 23, blk (w5.heap.size) ([.int .i64 (F6)]) 25, blk (w8.heap.size) ([.func (.func 24) #[] #[.pointer (some ⟨w5.heap.size, 0, none⟩)]]) 63, blk (w.heap.size) (smc (0) (0) (0)) 23] := hM
    refine κ19 _ _ (wp_seq_k fun _ κ22 => ?_)
    refine wp_region_steps (by kernel_rfl) (by kernel_rfl) [8, 10] [0, 0, 0, 0, 0, 0, 0, 0, 0, 1, 1] [0, 1, 1, 1, 1, 0, 0, 0, 1, 1, 2] (by kernel_rfl) (Pm := Unit) (fun π => [.func (.func 24) #[] #[.pointer (some ⟨w5.heap.size, 0, none⟩)], .pointer (some ⟨p21, 1, none⟩), .int .i64 (d), .int .i64 (p), .int .i64 (r), .tuple #[.agg (Wd.nl (U + G + 2)).toArray, .int .i64 (Eg)], .agg (Wd.nl (U + G + 2)).toArray, .int .i64 (Eg), .int .i64 (b), .pointer (some ⟨p21, 2, none⟩), undef]) (fun _ => by rfl) (fun j_ π wx => match j_ with | 0 => Ms w wx [blk (p21) (smc (o) (d) (0)) 23, blk (w5.heap.size) ([.int .i64 (F6)]) 25, blk (w8.heap.size) ([.func (.func 24) #[] #[.pointer (some ⟨w5.heap.size, 0, none⟩)]]) 63, blk (w.heap.size) (smc (0) (0) (0)) 23] | 1 => Ms w wx [blk (w5.heap.size) ([.int .i64 (F7)]) 25, blk (p21) (smc (o) (d) (0)) 23, blk (w8.heap.size) ([.func (.func 24) #[] #[.pointer (some ⟨w5.heap.size, 0, none⟩)]]) 63, blk (w.heap.size) (smc (0) (0) (0)) 23] | _ => Ms w wx [blk (w5.heap.size) ([.int .i64 (F7)]) 25, blk (p21) (smc (o) (d) (b)) 23, blk (w8.heap.size) ([.func (.func 24) #[] #[.pointer (some ⟨w5.heap.size, 0, none⟩)]]) 63, blk (w.heap.size) (smc (0) (0) (0)) 23]) () hM.drew ?_ ?_ ?_
    · intro j_ k_ o_ hj_ ho_ π wx hM
      rcases j_ with _ | _ | j_
      · obtain rfl := Option.some.inj hj_
        cases so ho_
        simp only [fullL, Act.put, st_a, st_s, st_0]
        change Ms _ _ _ at hM
        exact gw rfl (g_callc _ 24 [_, _] _ #[.pointer (some ⟨w5.heap.size, 0, none⟩)] _ rfl (kf24 _ _) rfl ((num_any (U + G + 2) Eg F6 b e7 F7 a7 b7 (show Ms w wx [blk (w5.heap.size) ([.int .i64 (F6)]) 25, blk (p21) (smc (o) (d) (0)) 23, blk (w8.heap.size) ([.func (.func 24) #[] #[.pointer (some ⟨w5.heap.size, 0, none⟩)]]) 63, blk (w.heap.size) (smc (0) (0) (0)) 23] from (hM.up 1 rfl))).mono (fun e w' ⟨h1_, h2_⟩ => ⟨_, h1_, ⟨(), rfl, (fun _ _ _ => by first | rfl | trivial), h2_⟩⟩)))
      · obtain rfl := Option.some.inj hj_
        cases so ho_
        simp only [fullL, Act.put, st_a, st_s, st_0]
        change Ms _ _ _ at hM
        exact gw rfl (g_st1 2 _ _ (p21) (2) (.int .i64 (b)) _ 23 rfl rfl (hM.get 1 rfl) (show 2 < 3 by decide) rfl rfl size2 (fun w' t_ b_ => ⟨(), rfl, (fun _ _ _ => by first | rfl | trivial), hM.put 1 rfl t_ b_⟩))
      · simp at hj_
    · intro i_ o_ ho_ hi_ j_ hd_ hh_ hj_ π wx hM
      simp only [fullL, Act.put, st_a, st_s, st_0]
      rcases i_ with _ | _ | _ | _ | _ | _ | _ | _ | _ | _ | _ | i_
      · cases so ho_
        rcases j_ with _ | _ | _ | j_
        · change Ms _ _ _ at hM
          exact gw rfl (g_ld1 63 _ (w8.heap.size) (0) _ rfl (ld63 _ _ _ _ ((hM.get 2 rfl).cell 0 _ (rfl))) ⟨rfl, hM⟩)
        · exact absurd hh_ (by decide)
        · exact absurd hh_ (by decide)
        · exact absurd hj_ (by simp)
      · cases so ho_
        exact gw rfl (g_fa _ _ _ _ _ _ rfl (faSm1 _ _ _) ⟨rfl, hM⟩)
      · cases so ho_
        rcases j_ with _ | _ | _ | j_
        · change Ms _ _ _ at hM
          exact gw rfl (g_ld1 2 _ (p21) (1) _ rfl (ld2 _ _ _ _ ((hM.get 0 rfl).cell (1) _ (rfl))) ⟨rfl, hM⟩)
        · change Ms _ _ _ at hM
          exact gw rfl (g_ld1 2 _ (p21) (1) _ rfl (ld2 _ _ _ _ ((hM.get 1 rfl).cell (1) _ (rfl))) ⟨rfl, hM⟩)
        · exact absurd hh_ (by decide)
        · exact absurd hj_ (by simp)
      · cases so ho_
        exact gw rfl (g_move _ _ rfl ⟨rfl, hM⟩)
      · cases so ho_
        exact gw rfl (g_move _ _ rfl ⟨rfl, hM⟩)
      · cases so ho_
        rcases j_ with _ | _ | _ | j_
        · change Ms _ _ _ at hM
          exact gw rfl (g_call 31 _ _ [.int .i64 (d), .int .i64 (p), .int .i64 (r)] (kf31 _ _) rfl ((bound_any d p r U T2 G Eg wx id_ ip hr hU hT2 hg iG).mono (fun _ _ ⟨h1_, h2_⟩ => ⟨_, h1_, rfl, hM.call h2_⟩)))
        · exact absurd hh_ (by decide)
        · exact absurd hh_ (by decide)
        · exact absurd hj_ (by simp)
      · cases so ho_
        exact gw rfl (g_extract _ _ _ _ rfl rfl ⟨rfl, hM⟩)
      · cases so ho_
        exact gw rfl (g_extract _ _ _ _ rfl rfl ⟨rfl, hM⟩)
      · exact absurd (by decide) hi_
      · cases so ho_
        exact gw rfl (g_fa _ _ _ _ _ _ rfl (faSm2 _ _ _) ⟨rfl, hM⟩)
      · exact absurd (by decide) hi_
      · simp at ho_
    · simp only [fullL, Act.put, st_a, st_s, st_0]
      rintro ⟨⟩ w23 hM
      replace hM : Ms w w23 [blk (w5.heap.size) ([.int .i64 (F7)]) 25, blk (p21) (smc (o) (d) (b)) 23, blk (w8.heap.size) ([.func (.func 24) #[] #[.pointer (some ⟨w5.heap.size, 0, none⟩)]]) 63, blk (w.heap.size) (smc (0) (0) (0)) 23] := hM
      refine κ22 _ _ (wp_seq_k fun _ κ24 => ?_)
      refine wp_seq_k fun _ κ25 => wl_region (wl_fare kn ?_)
      simp (config := { maxSteps := 10000000 }) (disch := omega) only [fx, pv, kx, (hM.get 1 rfl).cell 1 (.int .i64 (d)) rfl]
      refine wl_nil (κ25 _ _ ?_)
      refine wp_cond_false rfl (wp_skip ?_)
      refine κ24 _ _ (wp_seq_k fun _ κ26 => ?_)
      refine wp_seq_k fun _ κ27 => wl_region (wl_give rfl (g_ld1 25 _ (w5.heap.size) (0) _ rfl (ld25 _ _ _ _ ((hM.get 0 rfl).cell 0 _ (rfl))) ?_))
      refine wl_fare kn ?_
      simp (disch := omega) only [fx, pv, kx, ((decide_eq_false (fun h => h h4)) : decide ((F7) ≠ (0)) = false)]
      refine wl_nil (κ27 _ _ ?_)
      refine wp_cond_false rfl (wp_skip ?_)
      refine κ26 _ _ (wp_seq_k fun _ κ28 => ?_)
      refine wl_region (wl_give rfl (g_load_all 23 _ (p21) (smc (o) (d) (b)) 23 _ rfl (hM.get 1 rfl) Tryd.underlying23 rfl (szSm _ _ _) ?_))
      try simp only [nz]
      refine wl_give rfl (g_store_all 23 _ _ (w.heap.size) (smc (o) (d) (b)) _ 23 rfl rfl (hM.get 3 rfl) (szSm _ _ _) (rfl) (one_smc _ _ _) fun w29 t_ b_ => ?_)
      replace hM : Ms w w29 [blk (w5.heap.size) ([.int .i64 (F7)]) 25, blk (p21) (smc (o) (d) (b)) 23, blk (w8.heap.size) ([.func (.func 24) #[] #[.pointer (some ⟨w5.heap.size, 0, none⟩)]]) 63, blk (w.heap.size) (smc (o) (d) (b)) 23] := hM.put 3 rfl t_ b_
      clear t_ b_
      refine wl_fare kn ?_
      simp (disch := omega) only [fx, pv, kx]
      refine wl_nil (κ28 _ _ ?_)
      refine wp_ret ?_
      (try simp only [Exit.inBlock, Exit.then])
      exact bodyPost_ret (results_blk_tmp rfl _ (smc (o) (d) (b)) (.int .i64 (0)) _ rfl rfl (hM.get 3 rfl) Tryd.underlying23 rfl (szSm _ _ _)) rfl ⟨rfl, hM.below⟩
theorem fnz_l (a : Int) (l : List Int) (h : a ≠ 0) : fnz (a :: l) = a := by rw [fnz, if_pos h]
theorem wh_cases (z V E : Int) (h : Wd.wh z = (V, E)) : (Wd.In64 z ∧ V = z ∧ E = 0) ∨ (¬ Wd.In64 z ∧ V = 0 ∧ E = 6) := by
  by_cases hz : Wd.In64 z
  · rw [Wd.wh_in z hz] at h; cases h; exact .inl ⟨hz, rfl, rfl⟩
  · rw [Wd.wh_out z hz] at h; cases h; exact .inr ⟨hz, rfl, rfl⟩
theorem fnz_6 (F E : Int) (hF : F = 0 ∨ F = 6) (hE : E = 0 ∨ E = 6) : fnz [F, 0, E] = 0 ∧ F = 0 ∧ E = 0 ∨ fnz [F, 0, E] = 6 ∧ (F = 6 ∨ E = 6) := by
  rcases hF with rfl | rfl <;> rcases hE with rfl | rfl <;> decide
set_option maxHeartbeats 4000000 in
/-- Round. -/
theorem round_any (t1 t2 t3 t4 r : Int) (w : World) (i1 : Wd.In64 t1) (i2 : Wd.In64 t2) (i3 : Wd.In64 t3) (i4 : Wd.In64 t4) (O D B E : Int) (h : Shut (vrd t1 t2 t3 t4 r = ((O, D, B), E))) : Calls Tryd.prog 11 #[.int .i64 t1, .int .i64 t2, .int .i64 t3, .int .i64 t4, .int .i64 r] w fun e w' => e = .returned (.tuple #[.agg (smc (O) (D) (B)).toArray, .int .i64 (E)]) ∧ Below w.heap.size w w' := by
  have h := h.out
  unfold vrd at h
  by_cases hr : 0 ≤ r ∧ r ≤ 100000000
  · by_cases h1 : t4 < t1
    · rw [if_pos (by unfold rOk; omega)] at h; cases h; exact rd_b t1 t2 t3 t4 r w hr h1
    · by_cases h2 : t3 < t2
      · rw [if_pos (by unfold rOk; omega)] at h; cases h; exact rd_c t1 t2 t3 t4 r w hr h1 h2
      · rw [if_neg (by unfold rOk; omega)] at h
        obtain ⟨p, e1, a1⟩ : ∃ p e1, Wd.wh (t4 - t1) = (p, e1) := ⟨_, _, rfl⟩
        obtain ⟨q, e2, a2⟩ : ∃ q e2, Wd.wh (t3 - t2) = (q, e2) := ⟨_, _, rfl⟩
        obtain ⟨x, e3, a3⟩ : ∃ x e3, Wd.wh (t2 - t1) = (x, e3) := ⟨_, _, rfl⟩
        obtain ⟨y, e4, a4⟩ : ∃ y e4, Wd.wh (t3 - t4) = (y, e4) := ⟨_, _, rfl⟩
        obtain ⟨d, e5, a5⟩ : ∃ d e5, Wd.wh (p - q) = (d, e5) := ⟨_, _, rfl⟩
        obtain ⟨o, e6, a6⟩ : ∃ o e6, Wd.wh ((x + y) / 2) = (o, e6) := ⟨_, _, rfl⟩
        obtain ⟨G, Eg, hg⟩ : ∃ G Eg, Wd.grw p (2 * r) = (G, Eg) := ⟨_, _, rfl⟩
        obtain ⟨b, e7, a7⟩ : ∃ b e7, Wd.wh ((d + 1) / 2 + G + 2) = (b, e7) := ⟨_, _, rfl⟩
        have w64 := fun z => Wd.wh_64 z
        have ip : Wd.In64 p := by have := w64 (t4 - t1); rwa [a1] at this
        have iq : Wd.In64 q := by have := w64 (t3 - t2); rwa [a2] at this
        have ix : Wd.In64 x := by have := w64 (t2 - t1); rwa [a3] at this
        have iy : Wd.In64 y := by have := w64 (t3 - t4); rwa [a4] at this
        have idd : Wd.In64 d := by have := w64 (p - q); rwa [a5] at this
        have iG : Wd.In64 G := by
          unfold Wd.grw at hg
          split at hg
          · cases hg; exact ⟨by decide, by decide⟩
          · have := w64 ((p * (2 * r) + 999999999) / 1000000000); rwa [hg] at this
        have rd := rd_d t1 t2 t3 t4 r w hr h1 h2 i1 i2 i3 i4 p e1 _ q e2 _ x e3 _ y e4 _ d e5 _ _ _ o e6 _ _ _ G Eg b e7 _ ip iq ix iy idd iG a1 rfl a2 rfl a3 rfl a4 rfl a5 rfl rfl rfl a6 rfl rfl rfl hg a7 rfl
        have re := rd_e t1 t2 t3 t4 r w hr h1 h2 i1 i2 i3 i4 p e1 _ q e2 _ x e3 _ y e4 _ d e5 _ _ _ o e6 _ _ _ G Eg b e7 _ ip iq ix iy idd iG a1 rfl a2 rfl a3 rfl a4 rfl a5 rfl rfl rfl a6 rfl rfl rfl hg a7 rfl
        have rf := rd_f t1 t2 t3 t4 r w hr h1 h2 i1 i2 i3 i4 p e1 _ q e2 _ x e3 _ y e4 _ d e5 _ _ _ o e6 _ _ _ G Eg b e7 _ ip iq ix iy idd iG a1 rfl a2 rfl a3 rfl a4 rfl a5 rfl rfl rfl a6 rfl rfl rfl hg a7 rfl
        have c1 := wh_cases _ _ _ a1
        have c2 := wh_cases _ _ _ a2
        have c3 := wh_cases _ _ _ a3
        have c4 := wh_cases _ _ _ a4
        have c5 := wh_cases _ _ _ a5
        have c6 := wh_cases _ _ _ a6
        have c7 := wh_cases _ _ _ a7
        by_cases hin : In64 (t4 - t1) ∧ In64 (t3 - t2) ∧ In64 (t2 - t1) ∧ In64 (t3 - t4)
        · rw [if_neg (fun hn => hn hin)] at h
          obtain ⟨n1, n2, n3, n4⟩ := hin
          obtain ⟨-, rfl, rfl⟩ := c1.resolve_right (fun h => h.1 n1)
          obtain ⟨-, rfl, rfl⟩ := c2.resolve_right (fun h => h.1 n2)
          obtain ⟨-, rfl, rfl⟩ := c3.resolve_right (fun h => h.1 n3)
          obtain ⟨-, rfl, rfl⟩ := c4.resolve_right (fun h => h.1 n4)
          obtain ⟨-, rfl, rfl⟩ := c5.resolve_right (fun h => h.1 (by unfold Wd.In64; omega))
          obtain ⟨-, rfl, rfl⟩ := c6.resolve_right (fun h => h.1 (by unfold Wd.In64; omega))
          have hgr : ((t4 - t1) * (2 * r) + 999999999) / 1000000000 ≤ (t4 - t1) / 5 + 1 ∧ 0 ≤ ((t4 - t1) * (2 * r) + 999999999) / 1000000000 := by
            have m1 : (t4 - t1) * (2 * r) ≤ (t4 - t1) * 200000000 := Int.mul_le_mul_of_nonneg_left (by omega) (by omega)
            have m2 : 0 ≤ (t4 - t1) * (2 * r) := Int.mul_nonneg (by omega) (by omega)
            generalize (t4 - t1) * (2 * r) = M at m1 m2 ⊢
            omega
          have hg2 : Wd.grw (t4 - t1) (2 * r) = (((t4 - t1) * (2 * r) + 999999999) / 1000000000, 0) := by
            unfold Wd.grw
            rw [if_neg (by omega), Wd.wh_in]
            unfold Wd.In64
            omega
          rw [hg2] at hg
          cases hg
          generalize hGG : ((t4 - t1) * (2 * r) + 999999999) / 1000000000 = G at *
          obtain ⟨-, rfl, rfl⟩ := c7.resolve_right (fun h => h.1 (by unfold Wd.In64; omega))
          by_cases h3 : t4 - t1 - (t3 - t2) < 0
          · rw [if_pos h3] at h
            cases h
            exact rd h3 3 rfl (by decide)
          · rw [if_neg h3] at h
            cases h
            exact rf h3 rfl
        · rw [if_pos hin] at h
          cases h
          have hb : fnz [fnz [fnz [fnz [0, 0, e1], 0, e2], 0, e3], 0, e4] = 6 := by
            have k1 := fnz_6 0 e1 (.inl rfl) (by rcases c1 with h | h; exact .inl h.2.2; exact .inr h.2.2)
            have k2 := fnz_6 (fnz [0, 0, e1]) e2 (by rcases k1 with h | h; exact .inl h.1; exact .inr h.1) (by rcases c2 with h | h; exact .inl h.2.2; exact .inr h.2.2)
            have k3 := fnz_6 (fnz [fnz [0, 0, e1], 0, e2]) e3 (by rcases k2 with h | h; exact .inl h.1; exact .inr h.1) (by rcases c3 with h | h; exact .inl h.2.2; exact .inr h.2.2)
            have k4 := fnz_6 (fnz [fnz [fnz [0, 0, e1], 0, e2], 0, e3]) e4 (by rcases k3 with h | h; exact .inl h.1; exact .inr h.1) (by rcases c4 with h | h; exact .inl h.2.2; exact .inr h.2.2)
            rcases k4 with ⟨_, f4, z4⟩ | h
            · exfalso
              rcases k3 with ⟨_, f3, z3⟩ | h
              · rcases k2 with ⟨_, f2, z2⟩ | h
                · rcases k1 with ⟨_, f1, z1⟩ | h
                  · exact hin ⟨(c1.resolve_right (fun h => by omega)).1, (c2.resolve_right (fun h => by omega)).1, (c3.resolve_right (fun h => by omega)).1, (c4.resolve_right (fun h => by omega)).1⟩
                  · omega
                · omega
              · omega
            · exact h.1
          rw [hb] at rd re rf
          have z6 : ∀ (l : List Int), fnz (6 :: l) = 6 := fun l => fnz_l 6 l (by decide)
          simp only [z6] at rd re
          by_cases h3 : d < 0
          · exact rd h3 6 rfl (by decide)
          · exact re h3 (by decide)
  · rw [if_pos (by unfold rOk; omega)] at h; cases h; exact rd_a t1 t2 t3 t4 r w hr
theorem results_blk2 {fn : Func} {p q : Tmp} {t : TypeId} (hf : fn.results = #[.cell p t, .cell q t]) {a : Act} {w : World} (b c : Nat) (cs ds : List Value) (d : TypeDesc) (hp : a.tmps.getD p undef = .pointer (some ⟨b, 0, none⟩)) (hq : a.tmps.getD q undef = .pointer (some ⟨c, 0, none⟩)) (hb : Blk w b cs t) (hc : Blk w c ds t)
    (hu : Tryd.prog.underlying t = some d) (hd : d.isRow = true) (hi : (Tryd.prog.info? t).map (·.size) = some cs.length) (hj : (Tryd.prog.info? t).map (·.size) = some ds.length) : (results fn a.tmps).run Tryd.prog w = .ok (.tuple #[.agg cs.toArray, .agg ds.toArray]) w := by
  have h := run_loadVar_mid (P := Tryd.prog) w b 0 t cs d (by simpa using hb.range 0 cs.length) hu hd hi
  have h2 := run_loadVar_mid (P := Tryd.prog) w c 0 t ds d (by simpa using hc.range 0 ds.length) hu hd hj
  have hp' : a.tmps[p]?.getD undef = .pointer (some ⟨b, 0, none⟩) := by simpa using hp
  have hq' : a.tmps[q]?.getD undef = .pointer (some ⟨c, 0, none⟩) := by simpa using hq
  simp [results, hf, asAddr, hp', hq', h, h2]
set_option maxHeartbeats 8000000 in
theorem ends_any (o d b : Int) (w : World) (ho : Wd.In64 o) (hb : Wd.In64 b) : Calls Tryd.prog 40 #[.agg (smc o d b).toArray] w fun e w' => e = .returned (.tuple #[.agg (Wd.nl (o - b)).toArray, .agg (Wd.nl (o + b)).toArray]) ∧ Below w.heap.size w w' := by
  have hM := Ms.refl w
  go_enter Tryd.func40, Tryd.ntmps40
  refine wp_seq_k fun _ κ1 => wl_region (wl_give rfl (g_box 23 _ (smc (o) (d) (b)) rfl ?_))
  intro w2 t_ b_
  replace hM := hM.new t_ b_
  clear t_ b_
  try simp only [nz]
  refine wl_give rfl (g_alloc 60 (Wd.nl (0)) Wd.zeroN fun w3 t_ b_ => ?_)
  replace hM := hM.new t_ b_
  clear t_ b_
  try simp only [nz]
  refine wl_give rfl (g_alloc 60 (Wd.nl (0)) Wd.zeroN fun w4 t_ b_ => ?_)
  replace hM := hM.new t_ b_
  clear t_ b_
  try simp only [nz]
  refine wl_nil (κ1 _ _ ?_)
  refine wp_seq_k fun _ κ5 => ?_
  refine wp_region_steps (by kernel_rfl) (by kernel_rfl) [10] [0, 0, 0, 0, 0, 0, 0, 0, 0, 0, 0] [0, 0, 0, 0, 0, 0, 0, 0, 0, 1, 1] (by kernel_rfl) (Pm := Unit) (fun π => [.pointer (some ⟨w.heap.size, 0, none⟩), .int .i64 (o), .agg (Wd.nl (o)).toArray, .pointer (some ⟨w.heap.size, 2, none⟩), .int .i64 (b), .agg (Wd.nl (b)).toArray, .tuple #[.agg (Wd.nl (o - b)).toArray, .int .i64 (0)], .tuple #[.agg (Wd.nl (o - b)).toArray, .int .i64 (0)], .agg (Wd.nl (o - b)).toArray, .int .i64 (0), undef]) (fun _ => by rfl) (fun j_ π wx => match j_ with | 0 => Ms w wx [blk (w3.heap.size) (Wd.nl (0)) 60, blk (w2.heap.size) (Wd.nl (0)) 60, blk (w.heap.size) (smc (o) (d) (b)) 23] | _ => Ms w wx [blk (w3.heap.size) (Wd.nl (0)) 60, blk (w2.heap.size) (Wd.nl (o - b)) 60, blk (w.heap.size) (smc (o) (d) (b)) 23]) () hM.drew ?_ ?_ ?_
  · intro j_ k_ o_ hj_ ho_ π wx hM
    rcases j_ with _ | j_
    · obtain rfl := Option.some.inj hj_
      cases so ho_
      simp only [fullL, Act.put, st_a, st_s, st_0]
      change Ms _ _ _ at hM
      exact gw rfl (g_store_all 60 _ _ (w2.heap.size) (Wd.nl (o - b)) _ 60 rfl rfl (hM.get 1 rfl) (Wd.szN _) (rfl) (Wd.one_nl _) (fun w' t_ b_ => ⟨(), rfl, (fun _ _ _ => by first | rfl | trivial), hM.put 1 rfl t_ b_⟩))
    · simp at hj_
  · intro i_ o_ ho_ hi_ j_ hd_ hh_ hj_ π wx hM
    simp only [fullL, Act.put, st_a, st_s, st_0]
    rcases i_ with _ | _ | _ | _ | _ | _ | _ | _ | _ | _ | _ | i_
    · cases so ho_
      exact gw rfl (g_fa _ _ _ _ _ _ rfl (faSm0 _ _ _) ⟨rfl, hM⟩)
    · cases so ho_
      rcases j_ with _ | _ | j_
      · change Ms _ _ _ at hM
        exact gw rfl (g_ld1 2 _ (w.heap.size) (0) _ rfl (ld2 _ _ _ _ ((hM.get 2 rfl).cell (0) _ (rfl))) ⟨rfl, hM⟩)
      · exact absurd hh_ (by decide)
      · exact absurd hj_ (by simp)
    · cases so ho_
      rcases j_ with _ | _ | j_
      · change Ms _ _ _ at hM
        exact gw rfl (g_call 29 _ _ [.int .i64 (o)] (kf29 _ _) rfl ((Wd.of_any (o) wx (ho)).mono (fun _ _ ⟨h1_, h2_⟩ => ⟨_, h1_, rfl, hM.call h2_⟩)))
      · exact absurd hh_ (by decide)
      · exact absurd hj_ (by simp)
    · cases so ho_
      exact gw rfl (g_fa _ _ _ _ _ _ rfl (faSm2 _ _ _) ⟨rfl, hM⟩)
    · cases so ho_
      rcases j_ with _ | _ | j_
      · change Ms _ _ _ at hM
        exact gw rfl (g_ld1 2 _ (w.heap.size) (2) _ rfl (ld2 _ _ _ _ ((hM.get 2 rfl).cell (2) _ (rfl))) ⟨rfl, hM⟩)
      · exact absurd hh_ (by decide)
      · exact absurd hj_ (by simp)
    · cases so ho_
      rcases j_ with _ | _ | j_
      · change Ms _ _ _ at hM
        exact gw rfl (g_call 29 _ _ [.int .i64 (b)] (kf29 _ _) rfl ((Wd.of_any (b) wx (hb)).mono (fun _ _ ⟨h1_, h2_⟩ => ⟨_, h1_, rfl, hM.call h2_⟩)))
      · exact absurd hh_ (by decide)
      · exact absurd hj_ (by simp)
    · cases so ho_
      rcases j_ with _ | _ | j_
      · change Ms _ _ _ at hM
        exact gw rfl (g_call 28 _ _ [.agg (Wd.nl (o)).toArray, .agg (Wd.nl (b)).toArray] (kf28 _ _) rfl ((Wd.sub_ok o b wx (by unfold Wd.In64 at ho hb; unfold Wd.In128; omega) (by unfold Wd.In64 at ho hb; unfold Wd.In128; omega) (by unfold Wd.In64 at ho hb; unfold Wd.In128; omega)).mono (fun _ _ ⟨h1_, h2_⟩ => ⟨_, h1_, rfl, hM.call h2_⟩)))
      · exact absurd hh_ (by decide)
      · exact absurd hj_ (by simp)
    · cases so ho_
      exact gw rfl (g_move _ _ rfl ⟨rfl, hM⟩)
    · cases so ho_
      exact gw rfl (g_extract _ _ _ _ rfl rfl ⟨rfl, hM⟩)
    · cases so ho_
      exact gw rfl (g_extract _ _ _ _ rfl rfl ⟨rfl, hM⟩)
    · exact absurd (by decide) hi_
    · simp at ho_
  · simp only [fullL, Act.put, st_a, st_s, st_0]
    rintro ⟨⟩ w6 hM
    replace hM : Ms w w6 [blk (w3.heap.size) (Wd.nl (0)) 60, blk (w2.heap.size) (Wd.nl (o - b)) 60, blk (w.heap.size) (smc (o) (d) (b)) 23] := hM
    refine κ5 _ _ (wp_seq_k fun _ κ7 => ?_)
    refine wp_region_steps (by kernel_rfl) (by kernel_rfl) [10] [0, 0, 0, 0, 0, 0, 0, 0, 0, 0, 0] [0, 0, 0, 0, 0, 0, 0, 0, 0, 1, 1] (by kernel_rfl) (Pm := Unit) (fun π => [.pointer (some ⟨w.heap.size, 0, none⟩), .int .i64 (o), .agg (Wd.nl (o)).toArray, .pointer (some ⟨w.heap.size, 2, none⟩), .int .i64 (b), .agg (Wd.nl (b)).toArray, .tuple #[.agg (Wd.nl (o + b)).toArray, .int .i64 (0)], .tuple #[.agg (Wd.nl (o + b)).toArray, .int .i64 (0)], .agg (Wd.nl (o + b)).toArray, .int .i64 (0), undef]) (fun _ => by rfl) (fun j_ π wx => match j_ with | 0 => Ms w wx [blk (w3.heap.size) (Wd.nl (0)) 60, blk (w2.heap.size) (Wd.nl (o - b)) 60, blk (w.heap.size) (smc (o) (d) (b)) 23] | _ => Ms w wx [blk (w3.heap.size) (Wd.nl (o + b)) 60, blk (w2.heap.size) (Wd.nl (o - b)) 60, blk (w.heap.size) (smc (o) (d) (b)) 23]) () hM.drew ?_ ?_ ?_
    · intro j_ k_ o_ hj_ ho_ π wx hM
      rcases j_ with _ | j_
      · obtain rfl := Option.some.inj hj_
        cases so ho_
        simp only [fullL, Act.put, st_a, st_s, st_0]
        change Ms _ _ _ at hM
        exact gw rfl (g_store_all 60 _ _ (w3.heap.size) (Wd.nl (o + b)) _ 60 rfl rfl (hM.get 0 rfl) (Wd.szN _) (rfl) (Wd.one_nl _) (fun w' t_ b_ => ⟨(), rfl, (fun _ _ _ => by first | rfl | trivial), hM.put 0 rfl t_ b_⟩))
      · simp at hj_
    · intro i_ o_ ho_ hi_ j_ hd_ hh_ hj_ π wx hM
      simp only [fullL, Act.put, st_a, st_s, st_0]
      rcases i_ with _ | _ | _ | _ | _ | _ | _ | _ | _ | _ | _ | i_
      · cases so ho_
        exact gw rfl (g_fa _ _ _ _ _ _ rfl (faSm0 _ _ _) ⟨rfl, hM⟩)
      · cases so ho_
        rcases j_ with _ | _ | j_
        · change Ms _ _ _ at hM
          exact gw rfl (g_ld1 2 _ (w.heap.size) (0) _ rfl (ld2 _ _ _ _ ((hM.get 2 rfl).cell (0) _ (rfl))) ⟨rfl, hM⟩)
        · exact absurd hh_ (by decide)
        · exact absurd hj_ (by simp)
      · cases so ho_
        rcases j_ with _ | _ | j_
        · change Ms _ _ _ at hM
          exact gw rfl (g_call 29 _ _ [.int .i64 (o)] (kf29 _ _) rfl ((Wd.of_any (o) wx (ho)).mono (fun _ _ ⟨h1_, h2_⟩ => ⟨_, h1_, rfl, hM.call h2_⟩)))
        · exact absurd hh_ (by decide)
        · exact absurd hj_ (by simp)
      · cases so ho_
        exact gw rfl (g_fa _ _ _ _ _ _ rfl (faSm2 _ _ _) ⟨rfl, hM⟩)
      · cases so ho_
        rcases j_ with _ | _ | j_
        · change Ms _ _ _ at hM
          exact gw rfl (g_ld1 2 _ (w.heap.size) (2) _ rfl (ld2 _ _ _ _ ((hM.get 2 rfl).cell (2) _ (rfl))) ⟨rfl, hM⟩)
        · exact absurd hh_ (by decide)
        · exact absurd hj_ (by simp)
      · cases so ho_
        rcases j_ with _ | _ | j_
        · change Ms _ _ _ at hM
          exact gw rfl (g_call 29 _ _ [.int .i64 (b)] (kf29 _ _) rfl ((Wd.of_any (b) wx (hb)).mono (fun _ _ ⟨h1_, h2_⟩ => ⟨_, h1_, rfl, hM.call h2_⟩)))
        · exact absurd hh_ (by decide)
        · exact absurd hj_ (by simp)
      · cases so ho_
        rcases j_ with _ | _ | j_
        · change Ms _ _ _ at hM
          exact gw rfl (g_call 52 _ _ [.agg (Wd.nl (o)).toArray, .agg (Wd.nl (b)).toArray] (kf52 _ _) rfl ((Wd.add_ok o b wx (by unfold Wd.In64 at ho hb; unfold Wd.In128; omega) (by unfold Wd.In64 at ho hb; unfold Wd.In128; omega) (by unfold Wd.In64 at ho hb; unfold Wd.In128; omega)).mono (fun _ _ ⟨h1_, h2_⟩ => ⟨_, h1_, rfl, hM.call h2_⟩)))
        · exact absurd hh_ (by decide)
        · exact absurd hj_ (by simp)
      · cases so ho_
        exact gw rfl (g_move _ _ rfl ⟨rfl, hM⟩)
      · cases so ho_
        exact gw rfl (g_extract _ _ _ _ rfl rfl ⟨rfl, hM⟩)
      · cases so ho_
        exact gw rfl (g_extract _ _ _ _ rfl rfl ⟨rfl, hM⟩)
      · exact absurd (by decide) hi_
      · simp at ho_
    · simp only [fullL, Act.put, st_a, st_s, st_0]
      rintro ⟨⟩ w8 hM
      replace hM : Ms w w8 [blk (w3.heap.size) (Wd.nl (o + b)) 60, blk (w2.heap.size) (Wd.nl (o - b)) 60, blk (w.heap.size) (smc (o) (d) (b)) 23] := hM
      refine κ7 _ _ (wp_seq_k fun _ κ9 => ?_)
      refine wp_region_steps (by kernel_rfl) (by kernel_rfl) [2, 3] [0, 0, 0, 1] [0, 1, 1, 2] (by kernel_rfl) (Pm := Unit) (fun π => [.agg (Wd.nl (o - b)).toArray, .agg (Wd.nl (o + b)).toArray, undef, undef]) (fun _ => by rfl) (fun j_ π wx => match j_ with | 0 => Ms w wx [blk (w3.heap.size) (Wd.nl (o + b)) 60, blk (w2.heap.size) (Wd.nl (o - b)) 60, blk (w.heap.size) (smc (o) (d) (b)) 23] | 1 => Ms w wx [blk (w3.heap.size) (Wd.nl (o + b)) 60, blk (w2.heap.size) (Wd.nl (o - b)) 60, blk (w.heap.size) (smc (o) (d) (b)) 23] | _ => Ms w wx [blk (w3.heap.size) (Wd.nl (o + b)) 60, blk (w2.heap.size) (Wd.nl (o - b)) 60, blk (w.heap.size) (smc (o) (d) (b)) 23]) () hM.drew ?_ ?_ ?_
      · intro j_ k_ o_ hj_ ho_ π wx hM
        rcases j_ with _ | _ | j_
        · obtain rfl := Option.some.inj hj_
          cases so ho_
          simp only [fullL, Act.put, st_a, st_s, st_0]
          change Ms _ _ _ at hM
          exact gw rfl (g_store_all 60 _ _ (w2.heap.size) (Wd.nl (o - b)) _ 60 rfl rfl (hM.get 1 rfl) (Wd.szN _) (rfl) (Wd.one_nl _) (fun w' t_ b_ => ⟨(), rfl, (fun _ _ _ => by first | rfl | trivial), hM.put 1 rfl t_ b_⟩))
        · obtain rfl := Option.some.inj hj_
          cases so ho_
          simp only [fullL, Act.put, st_a, st_s, st_0]
          change Ms _ _ _ at hM
          exact gw rfl (g_store_all 60 _ _ (w3.heap.size) (Wd.nl (o + b)) _ 60 rfl rfl (hM.get 0 rfl) (Wd.szN _) (rfl) (Wd.one_nl _) (fun w' t_ b_ => ⟨(), rfl, (fun _ _ _ => by first | rfl | trivial), hM.put 0 rfl t_ b_⟩))
        · simp at hj_
      · intro i_ o_ ho_ hi_ j_ hd_ hh_ hj_ π wx hM
        simp only [fullL, Act.put, st_a, st_s, st_0]
        rcases i_ with _ | _ | _ | _ | i_
        · cases so ho_
          rcases j_ with _ | _ | _ | j_
          · change Ms _ _ _ at hM
            exact gw rfl (g_load_all 60 _ (w2.heap.size) (Wd.nl (o - b)) 60 _ rfl (hM.get 1 rfl) Tryd.underlying60 rfl (Wd.szN _) ⟨rfl, hM⟩)
          · exact absurd hh_ (by decide)
          · exact absurd hh_ (by decide)
          · exact absurd hj_ (by simp)
        · cases so ho_
          rcases j_ with _ | _ | _ | j_
          · change Ms _ _ _ at hM
            exact gw rfl (g_load_all 60 _ (w3.heap.size) (Wd.nl (o + b)) 60 _ rfl (hM.get 0 rfl) Tryd.underlying60 rfl (Wd.szN _) ⟨rfl, hM⟩)
          · change Ms _ _ _ at hM
            exact gw rfl (g_load_all 60 _ (w3.heap.size) (Wd.nl (o + b)) 60 _ rfl (hM.get 0 rfl) Tryd.underlying60 rfl (Wd.szN _) ⟨rfl, hM⟩)
          · exact absurd hh_ (by decide)
          · exact absurd hj_ (by simp)
        · exact absurd (by decide) hi_
        · exact absurd (by decide) hi_
        · simp at ho_
      · simp only [fullL, Act.put, st_a, st_s, st_0]
        rintro ⟨⟩ w10 hM
        replace hM : Ms w w10 [blk (w3.heap.size) (Wd.nl (o + b)) 60, blk (w2.heap.size) (Wd.nl (o - b)) 60, blk (w.heap.size) (smc (o) (d) (b)) 23] := hM
        refine κ9 _ _ (wp_ret ?_)
        (try simp only [Exit.inBlock, Exit.then])
        exact bodyPost_ret (results_blk2 rfl (w2.heap.size) (w3.heap.size) (Wd.nl (o - b)) (Wd.nl (o + b)) _ rfl rfl (hM.get 1 rfl) (hM.get 0 rfl) Tryd.underlying60 rfl (Wd.szN _) (Wd.szN _)) rfl ⟨rfl, hM.below⟩
set_option maxHeartbeats 8000000 in
theorem up_y (x y R : Int) (w : World) (hR : Hid (Wd.cmpI x y = R)) (h : R ≤ 0) : Calls Tryd.prog 41 #[.agg (Wd.nl x).toArray, .agg (Wd.nl y).toArray] w fun e w' => e = .returned (.bool true) ∧ Below w.heap.size w w' := by
  have hM := Ms.refl w
  go_enter Tryd.func41, Tryd.ntmps41
  refine wp_seq_k fun _ κ1 => wl_region (wl_give rfl (g_box 60 _ (Wd.nl (x)) rfl ?_))
  intro w2 t_ b_
  replace hM := hM.new t_ b_
  clear t_ b_
  try simp only [nz]
  refine wl_give rfl (g_box 60 _ (Wd.nl (y)) rfl fun w3 t_ b_ => ?_)
  replace hM := hM.new t_ b_
  clear t_ b_
  refine wl_fare kn ?_
  simp (disch := omega) only [fx, pv, kx]
  refine wl_nil (κ1 _ _ ?_)
  refine wp_seq_k fun _ κ4 => wl_region (wl_give rfl (g_load_all 60 _ (w.heap.size) (Wd.nl (x)) 60 _ rfl (hM.get 1 rfl) Tryd.underlying60 rfl (Wd.szN _) ?_))
  try simp only [nz]
  refine wl_give rfl (g_load_all 60 _ (w2.heap.size) (Wd.nl (y)) 60 _ rfl (hM.get 0 rfl) Tryd.underlying60 rfl (Wd.szN _) ?_)
  try simp only [nz]
  refine wl_give rfl (g_cM hM (kf62 _ _) (Wd.cmp_any x y w3 R hR) rfl fun w5 hM => wl_fare kn ?_)
  simp (disch := omega) only [fx, pv, kx]
  refine wl_nil (κ4 _ _ ?_)
  refine wp_ret ?_
  go_ret
  exact ⟨rfl, hM.below⟩
set_option maxHeartbeats 8000000 in
theorem up_n (x y R : Int) (w : World) (hR : Hid (Wd.cmpI x y = R)) (h : ¬ R ≤ 0) : Calls Tryd.prog 41 #[.agg (Wd.nl x).toArray, .agg (Wd.nl y).toArray] w fun e w' => e = .returned (.bool false) ∧ Below w.heap.size w w' := by
  have hM := Ms.refl w
  go_enter Tryd.func41, Tryd.ntmps41
  refine wp_seq_k fun _ κ1 => wl_region (wl_give rfl (g_box 60 _ (Wd.nl (x)) rfl ?_))
  intro w2 t_ b_
  replace hM := hM.new t_ b_
  clear t_ b_
  try simp only [nz]
  refine wl_give rfl (g_box 60 _ (Wd.nl (y)) rfl fun w3 t_ b_ => ?_)
  replace hM := hM.new t_ b_
  clear t_ b_
  refine wl_fare kn ?_
  simp (disch := omega) only [fx, pv, kx]
  refine wl_nil (κ1 _ _ ?_)
  refine wp_seq_k fun _ κ4 => wl_region (wl_give rfl (g_load_all 60 _ (w.heap.size) (Wd.nl (x)) 60 _ rfl (hM.get 1 rfl) Tryd.underlying60 rfl (Wd.szN _) ?_))
  try simp only [nz]
  refine wl_give rfl (g_load_all 60 _ (w2.heap.size) (Wd.nl (y)) 60 _ rfl (hM.get 0 rfl) Tryd.underlying60 rfl (Wd.szN _) ?_)
  try simp only [nz]
  refine wl_give rfl (g_cM hM (kf62 _ _) (Wd.cmp_any x y w3 R hR) rfl fun w5 hM => wl_fare kn ?_)
  simp (disch := omega) only [fx, pv, kx]
  refine wl_nil (κ4 _ _ ?_)
  refine wp_ret ?_
  go_ret
  exact ⟨rfl, hM.below⟩
theorem upto_y (x y : Int) (w : World) (h : x ≤ y) : Calls Tryd.prog 41 #[.agg (Wd.nl x).toArray, .agg (Wd.nl y).toArray] w fun e w' => e = .returned (.bool true) ∧ Below w.heap.size w w' :=
  up_y x y _ w rfl (by unfold Wd.cmpI; split; decide; rw [if_neg (by omega)]; decide)
theorem upto_n (x y : Int) (w : World) (h : ¬ x ≤ y) : Calls Tryd.prog 41 #[.agg (Wd.nl x).toArray, .agg (Wd.nl y).toArray] w fun e w' => e = .returned (.bool false) ∧ Below w.heap.size w w' :=
  up_n x y _ w rfl (by unfold Wd.cmpI; rw [if_neg (by omega), if_pos (by omega)]; decide)
set_option maxHeartbeats 8000000 in
theorem wi_0 (o d b p e c : Int) (w : World) (ho : Wd.In64 o) (hb : Wd.In64 b) (hp : Wd.In64 p) (hc : Wd.In64 c) (h0 : ¬ o - b ≤ o + b) : Calls Tryd.prog 13 #[.agg (smc o d b).toArray, .agg (smc p e c).toArray] w fun e w' => e = .returned (.bool false) ∧ Below w.heap.size w w' := by
  have hM := Ms.refl w
  go_enter Tryd.func13, Tryd.ntmps13
  refine wp_seq_k fun _ κ1 => wl_region (wl_give rfl (g_box 23 _ (smc (o) (d) (b)) rfl ?_))
  intro w2 t_ b_
  replace hM := hM.new t_ b_
  clear t_ b_
  try simp only [nz]
  refine wl_give rfl (g_box 23 _ (smc (p) (e) (c)) rfl fun w3 t_ b_ => ?_)
  replace hM := hM.new t_ b_
  clear t_ b_
  refine wl_fare kn ?_
  simp (disch := omega) only [fx, pv, kx]
  refine wl_nil (κ1 _ _ ?_)
  refine wp_seq_k fun _ κ4 => wl_region (wl_give rfl (g_load_all 23 _ (w.heap.size) (smc (o) (d) (b)) 23 _ rfl (hM.get 1 rfl) Tryd.underlying23 rfl (szSm _ _ _) ?_))
  try simp only [nz]
  refine wl_give rfl (g_cM hM (kf40 _ _) (ends_any o d b w3 ho hb) rfl fun w5 hM => wl_fare kn ?_)
  simp (disch := omega) only [fx, pv, kx]
  refine wl_give rfl (g_alloc 60 (Wd.nl (0)) Wd.zeroN fun w6 t_ b_ => ?_)
  replace hM := hM.new t_ b_
  clear t_ b_
  try simp only [nz]
  refine wl_give rfl (g_alloc 60 (Wd.nl (0)) Wd.zeroN fun w7 t_ b_ => ?_)
  replace hM := hM.new t_ b_
  clear t_ b_
  try simp only [nz]
  refine wl_give rfl (g_store_all 60 _ _ (w5.heap.size) (Wd.nl (o - b)) _ 60 rfl rfl (hM.get 1 rfl) (Wd.szN _) (rfl) (Wd.one_nl _) fun w8 t_ b_ => ?_)
  replace hM : Ms w w8 [blk (w6.heap.size) (Wd.nl (0)) 60, blk (w5.heap.size) (Wd.nl (o - b)) 60, blk (w2.heap.size) (smc (p) (e) (c)) 23, blk (w.heap.size) (smc (o) (d) (b)) 23] := hM.put 1 rfl t_ b_
  clear t_ b_
  try simp only [nz]
  refine wl_give rfl (g_store_all 60 _ _ (w6.heap.size) (Wd.nl (o + b)) _ 60 rfl rfl (hM.get 0 rfl) (Wd.szN _) (rfl) (Wd.one_nl _) fun w9 t_ b_ => ?_)
  replace hM : Ms w w9 [blk (w6.heap.size) (Wd.nl (o + b)) 60, blk (w5.heap.size) (Wd.nl (o - b)) 60, blk (w2.heap.size) (smc (p) (e) (c)) 23, blk (w.heap.size) (smc (o) (d) (b)) 23] := hM.put 0 rfl t_ b_
  clear t_ b_
  try simp only [nz]
  refine wl_nil (κ4 _ _ ?_)
  refine wp_seq_k fun _ κ10 => wl_region (wl_give rfl (g_load_all 23 _ (w2.heap.size) (smc (p) (e) (c)) 23 _ rfl (hM.get 2 rfl) Tryd.underlying23 rfl (szSm _ _ _) ?_))
  try simp only [nz]
  refine wl_give rfl (g_cM hM (kf40 _ _) (ends_any p e c w9 hp hc) rfl fun w11 hM => wl_fare kn ?_)
  simp (disch := omega) only [fx, pv, kx]
  refine wl_give rfl (g_alloc 60 (Wd.nl (0)) Wd.zeroN fun w12 t_ b_ => ?_)
  replace hM := hM.new t_ b_
  clear t_ b_
  try simp only [nz]
  refine wl_give rfl (g_alloc 60 (Wd.nl (0)) Wd.zeroN fun w13 t_ b_ => ?_)
  replace hM := hM.new t_ b_
  clear t_ b_
  try simp only [nz]
  refine wl_give rfl (g_store_all 60 _ _ (w11.heap.size) (Wd.nl (p - c)) _ 60 rfl rfl (hM.get 1 rfl) (Wd.szN _) (rfl) (Wd.one_nl _) fun w14 t_ b_ => ?_)
  replace hM : Ms w w14 [blk (w12.heap.size) (Wd.nl (0)) 60, blk (w11.heap.size) (Wd.nl (p - c)) 60, blk (w6.heap.size) (Wd.nl (o + b)) 60, blk (w5.heap.size) (Wd.nl (o - b)) 60, blk (w2.heap.size) (smc (p) (e) (c)) 23, blk (w.heap.size) (smc (o) (d) (b)) 23] := hM.put 1 rfl t_ b_
  clear t_ b_
  try simp only [nz]
  refine wl_give rfl (g_store_all 60 _ _ (w12.heap.size) (Wd.nl (p + c)) _ 60 rfl rfl (hM.get 0 rfl) (Wd.szN _) (rfl) (Wd.one_nl _) fun w15 t_ b_ => ?_)
  replace hM : Ms w w15 [blk (w12.heap.size) (Wd.nl (p + c)) 60, blk (w11.heap.size) (Wd.nl (p - c)) 60, blk (w6.heap.size) (Wd.nl (o + b)) 60, blk (w5.heap.size) (Wd.nl (o - b)) 60, blk (w2.heap.size) (smc (p) (e) (c)) 23, blk (w.heap.size) (smc (o) (d) (b)) 23] := hM.put 0 rfl t_ b_
  clear t_ b_
  try simp only [nz]
  refine wl_nil (κ10 _ _ ?_)
  refine wp_seq_k fun _ κ16 => wl_region (wl_give rfl (g_load_all 60 _ (w5.heap.size) (Wd.nl (o - b)) 60 _ rfl (hM.get 3 rfl) Tryd.underlying60 rfl (Wd.szN _) ?_))
  try simp only [nz]
  refine wl_give rfl (g_load_all 60 _ (w6.heap.size) (Wd.nl (o + b)) 60 _ rfl (hM.get 2 rfl) Tryd.underlying60 rfl (Wd.szN _) ?_)
  try simp only [nz]
  refine wl_give rfl (g_cM hM (kf41 _ _) (upto_n (o - b) (o + b) w15 h0) rfl fun w17 hM => wl_fare kn ?_)
  simp (config := { maxSteps := 10000000 }) (disch := omega) only [fx, pv, kx]
  refine wl_nil (κ16 _ _ ?_)
  refine wp_ret ?_
  go_ret
  exact ⟨rfl, hM.below⟩
set_option maxHeartbeats 8000000 in
theorem wi_1 (o d b p e c : Int) (w : World) (ho : Wd.In64 o) (hb : Wd.In64 b) (hp : Wd.In64 p) (hc : Wd.In64 c) (h0 : o - b ≤ o + b) (h1 : ¬ p - c ≤ p + c) : Calls Tryd.prog 13 #[.agg (smc o d b).toArray, .agg (smc p e c).toArray] w fun e w' => e = .returned (.bool false) ∧ Below w.heap.size w w' := by
  have hM := Ms.refl w
  go_enter Tryd.func13, Tryd.ntmps13
  refine wp_seq_k fun _ κ1 => wl_region (wl_give rfl (g_box 23 _ (smc (o) (d) (b)) rfl ?_))
  intro w2 t_ b_
  replace hM := hM.new t_ b_
  clear t_ b_
  try simp only [nz]
  refine wl_give rfl (g_box 23 _ (smc (p) (e) (c)) rfl fun w3 t_ b_ => ?_)
  replace hM := hM.new t_ b_
  clear t_ b_
  refine wl_fare kn ?_
  simp (disch := omega) only [fx, pv, kx]
  refine wl_nil (κ1 _ _ ?_)
  refine wp_seq_k fun _ κ4 => wl_region (wl_give rfl (g_load_all 23 _ (w.heap.size) (smc (o) (d) (b)) 23 _ rfl (hM.get 1 rfl) Tryd.underlying23 rfl (szSm _ _ _) ?_))
  try simp only [nz]
  refine wl_give rfl (g_cM hM (kf40 _ _) (ends_any o d b w3 ho hb) rfl fun w5 hM => wl_fare kn ?_)
  simp (disch := omega) only [fx, pv, kx]
  refine wl_give rfl (g_alloc 60 (Wd.nl (0)) Wd.zeroN fun w6 t_ b_ => ?_)
  replace hM := hM.new t_ b_
  clear t_ b_
  try simp only [nz]
  refine wl_give rfl (g_alloc 60 (Wd.nl (0)) Wd.zeroN fun w7 t_ b_ => ?_)
  replace hM := hM.new t_ b_
  clear t_ b_
  try simp only [nz]
  refine wl_give rfl (g_store_all 60 _ _ (w5.heap.size) (Wd.nl (o - b)) _ 60 rfl rfl (hM.get 1 rfl) (Wd.szN _) (rfl) (Wd.one_nl _) fun w8 t_ b_ => ?_)
  replace hM : Ms w w8 [blk (w6.heap.size) (Wd.nl (0)) 60, blk (w5.heap.size) (Wd.nl (o - b)) 60, blk (w2.heap.size) (smc (p) (e) (c)) 23, blk (w.heap.size) (smc (o) (d) (b)) 23] := hM.put 1 rfl t_ b_
  clear t_ b_
  try simp only [nz]
  refine wl_give rfl (g_store_all 60 _ _ (w6.heap.size) (Wd.nl (o + b)) _ 60 rfl rfl (hM.get 0 rfl) (Wd.szN _) (rfl) (Wd.one_nl _) fun w9 t_ b_ => ?_)
  replace hM : Ms w w9 [blk (w6.heap.size) (Wd.nl (o + b)) 60, blk (w5.heap.size) (Wd.nl (o - b)) 60, blk (w2.heap.size) (smc (p) (e) (c)) 23, blk (w.heap.size) (smc (o) (d) (b)) 23] := hM.put 0 rfl t_ b_
  clear t_ b_
  try simp only [nz]
  refine wl_nil (κ4 _ _ ?_)
  refine wp_seq_k fun _ κ10 => wl_region (wl_give rfl (g_load_all 23 _ (w2.heap.size) (smc (p) (e) (c)) 23 _ rfl (hM.get 2 rfl) Tryd.underlying23 rfl (szSm _ _ _) ?_))
  try simp only [nz]
  refine wl_give rfl (g_cM hM (kf40 _ _) (ends_any p e c w9 hp hc) rfl fun w11 hM => wl_fare kn ?_)
  simp (disch := omega) only [fx, pv, kx]
  refine wl_give rfl (g_alloc 60 (Wd.nl (0)) Wd.zeroN fun w12 t_ b_ => ?_)
  replace hM := hM.new t_ b_
  clear t_ b_
  try simp only [nz]
  refine wl_give rfl (g_alloc 60 (Wd.nl (0)) Wd.zeroN fun w13 t_ b_ => ?_)
  replace hM := hM.new t_ b_
  clear t_ b_
  try simp only [nz]
  refine wl_give rfl (g_store_all 60 _ _ (w11.heap.size) (Wd.nl (p - c)) _ 60 rfl rfl (hM.get 1 rfl) (Wd.szN _) (rfl) (Wd.one_nl _) fun w14 t_ b_ => ?_)
  replace hM : Ms w w14 [blk (w12.heap.size) (Wd.nl (0)) 60, blk (w11.heap.size) (Wd.nl (p - c)) 60, blk (w6.heap.size) (Wd.nl (o + b)) 60, blk (w5.heap.size) (Wd.nl (o - b)) 60, blk (w2.heap.size) (smc (p) (e) (c)) 23, blk (w.heap.size) (smc (o) (d) (b)) 23] := hM.put 1 rfl t_ b_
  clear t_ b_
  try simp only [nz]
  refine wl_give rfl (g_store_all 60 _ _ (w12.heap.size) (Wd.nl (p + c)) _ 60 rfl rfl (hM.get 0 rfl) (Wd.szN _) (rfl) (Wd.one_nl _) fun w15 t_ b_ => ?_)
  replace hM : Ms w w15 [blk (w12.heap.size) (Wd.nl (p + c)) 60, blk (w11.heap.size) (Wd.nl (p - c)) 60, blk (w6.heap.size) (Wd.nl (o + b)) 60, blk (w5.heap.size) (Wd.nl (o - b)) 60, blk (w2.heap.size) (smc (p) (e) (c)) 23, blk (w.heap.size) (smc (o) (d) (b)) 23] := hM.put 0 rfl t_ b_
  clear t_ b_
  try simp only [nz]
  refine wl_nil (κ10 _ _ ?_)
  refine wp_seq_k fun _ κ16 => wl_region (wl_give rfl (g_load_all 60 _ (w5.heap.size) (Wd.nl (o - b)) 60 _ rfl (hM.get 3 rfl) Tryd.underlying60 rfl (Wd.szN _) ?_))
  try simp only [nz]
  refine wl_give rfl (g_load_all 60 _ (w6.heap.size) (Wd.nl (o + b)) 60 _ rfl (hM.get 2 rfl) Tryd.underlying60 rfl (Wd.szN _) ?_)
  try simp only [nz]
  refine wl_give rfl (g_cM hM (kf41 _ _) (upto_y (o - b) (o + b) w15 h0) rfl fun w17 hM => wl_fare kn ?_)
  simp (disch := omega) only [fx, pv, kx]
  refine wl_give rfl (g_load_all 60 _ (w11.heap.size) (Wd.nl (p - c)) 60 _ rfl (hM.get 1 rfl) Tryd.underlying60 rfl (Wd.szN _) ?_)
  try simp only [nz]
  refine wl_give rfl (g_load_all 60 _ (w12.heap.size) (Wd.nl (p + c)) 60 _ rfl (hM.get 0 rfl) Tryd.underlying60 rfl (Wd.szN _) ?_)
  try simp only [nz]
  refine wl_give rfl (g_cM hM (kf41 _ _) (upto_n (p - c) (p + c) w17 h1) rfl fun w18 hM => wl_fare kn ?_)
  simp (config := { maxSteps := 10000000 }) (disch := omega) only [fx, pv, kx]
  refine wl_nil (κ16 _ _ ?_)
  refine wp_ret ?_
  go_ret
  exact ⟨rfl, hM.below⟩
set_option maxHeartbeats 8000000 in
theorem wi_2 (o d b p e c : Int) (w : World) (ho : Wd.In64 o) (hb : Wd.In64 b) (hp : Wd.In64 p) (hc : Wd.In64 c) (h0 : o - b ≤ o + b) (h1 : p - c ≤ p + c) (h2 : ¬ o - b ≤ p + c) : Calls Tryd.prog 13 #[.agg (smc o d b).toArray, .agg (smc p e c).toArray] w fun e w' => e = .returned (.bool false) ∧ Below w.heap.size w w' := by
  have hM := Ms.refl w
  go_enter Tryd.func13, Tryd.ntmps13
  refine wp_seq_k fun _ κ1 => wl_region (wl_give rfl (g_box 23 _ (smc (o) (d) (b)) rfl ?_))
  intro w2 t_ b_
  replace hM := hM.new t_ b_
  clear t_ b_
  try simp only [nz]
  refine wl_give rfl (g_box 23 _ (smc (p) (e) (c)) rfl fun w3 t_ b_ => ?_)
  replace hM := hM.new t_ b_
  clear t_ b_
  refine wl_fare kn ?_
  simp (disch := omega) only [fx, pv, kx]
  refine wl_nil (κ1 _ _ ?_)
  refine wp_seq_k fun _ κ4 => wl_region (wl_give rfl (g_load_all 23 _ (w.heap.size) (smc (o) (d) (b)) 23 _ rfl (hM.get 1 rfl) Tryd.underlying23 rfl (szSm _ _ _) ?_))
  try simp only [nz]
  refine wl_give rfl (g_cM hM (kf40 _ _) (ends_any o d b w3 ho hb) rfl fun w5 hM => wl_fare kn ?_)
  simp (disch := omega) only [fx, pv, kx]
  refine wl_give rfl (g_alloc 60 (Wd.nl (0)) Wd.zeroN fun w6 t_ b_ => ?_)
  replace hM := hM.new t_ b_
  clear t_ b_
  try simp only [nz]
  refine wl_give rfl (g_alloc 60 (Wd.nl (0)) Wd.zeroN fun w7 t_ b_ => ?_)
  replace hM := hM.new t_ b_
  clear t_ b_
  try simp only [nz]
  refine wl_give rfl (g_store_all 60 _ _ (w5.heap.size) (Wd.nl (o - b)) _ 60 rfl rfl (hM.get 1 rfl) (Wd.szN _) (rfl) (Wd.one_nl _) fun w8 t_ b_ => ?_)
  replace hM : Ms w w8 [blk (w6.heap.size) (Wd.nl (0)) 60, blk (w5.heap.size) (Wd.nl (o - b)) 60, blk (w2.heap.size) (smc (p) (e) (c)) 23, blk (w.heap.size) (smc (o) (d) (b)) 23] := hM.put 1 rfl t_ b_
  clear t_ b_
  try simp only [nz]
  refine wl_give rfl (g_store_all 60 _ _ (w6.heap.size) (Wd.nl (o + b)) _ 60 rfl rfl (hM.get 0 rfl) (Wd.szN _) (rfl) (Wd.one_nl _) fun w9 t_ b_ => ?_)
  replace hM : Ms w w9 [blk (w6.heap.size) (Wd.nl (o + b)) 60, blk (w5.heap.size) (Wd.nl (o - b)) 60, blk (w2.heap.size) (smc (p) (e) (c)) 23, blk (w.heap.size) (smc (o) (d) (b)) 23] := hM.put 0 rfl t_ b_
  clear t_ b_
  try simp only [nz]
  refine wl_nil (κ4 _ _ ?_)
  refine wp_seq_k fun _ κ10 => wl_region (wl_give rfl (g_load_all 23 _ (w2.heap.size) (smc (p) (e) (c)) 23 _ rfl (hM.get 2 rfl) Tryd.underlying23 rfl (szSm _ _ _) ?_))
  try simp only [nz]
  refine wl_give rfl (g_cM hM (kf40 _ _) (ends_any p e c w9 hp hc) rfl fun w11 hM => wl_fare kn ?_)
  simp (disch := omega) only [fx, pv, kx]
  refine wl_give rfl (g_alloc 60 (Wd.nl (0)) Wd.zeroN fun w12 t_ b_ => ?_)
  replace hM := hM.new t_ b_
  clear t_ b_
  try simp only [nz]
  refine wl_give rfl (g_alloc 60 (Wd.nl (0)) Wd.zeroN fun w13 t_ b_ => ?_)
  replace hM := hM.new t_ b_
  clear t_ b_
  try simp only [nz]
  refine wl_give rfl (g_store_all 60 _ _ (w11.heap.size) (Wd.nl (p - c)) _ 60 rfl rfl (hM.get 1 rfl) (Wd.szN _) (rfl) (Wd.one_nl _) fun w14 t_ b_ => ?_)
  replace hM : Ms w w14 [blk (w12.heap.size) (Wd.nl (0)) 60, blk (w11.heap.size) (Wd.nl (p - c)) 60, blk (w6.heap.size) (Wd.nl (o + b)) 60, blk (w5.heap.size) (Wd.nl (o - b)) 60, blk (w2.heap.size) (smc (p) (e) (c)) 23, blk (w.heap.size) (smc (o) (d) (b)) 23] := hM.put 1 rfl t_ b_
  clear t_ b_
  try simp only [nz]
  refine wl_give rfl (g_store_all 60 _ _ (w12.heap.size) (Wd.nl (p + c)) _ 60 rfl rfl (hM.get 0 rfl) (Wd.szN _) (rfl) (Wd.one_nl _) fun w15 t_ b_ => ?_)
  replace hM : Ms w w15 [blk (w12.heap.size) (Wd.nl (p + c)) 60, blk (w11.heap.size) (Wd.nl (p - c)) 60, blk (w6.heap.size) (Wd.nl (o + b)) 60, blk (w5.heap.size) (Wd.nl (o - b)) 60, blk (w2.heap.size) (smc (p) (e) (c)) 23, blk (w.heap.size) (smc (o) (d) (b)) 23] := hM.put 0 rfl t_ b_
  clear t_ b_
  try simp only [nz]
  refine wl_nil (κ10 _ _ ?_)
  refine wp_seq_k fun _ κ16 => wl_region (wl_give rfl (g_load_all 60 _ (w5.heap.size) (Wd.nl (o - b)) 60 _ rfl (hM.get 3 rfl) Tryd.underlying60 rfl (Wd.szN _) ?_))
  try simp only [nz]
  refine wl_give rfl (g_load_all 60 _ (w6.heap.size) (Wd.nl (o + b)) 60 _ rfl (hM.get 2 rfl) Tryd.underlying60 rfl (Wd.szN _) ?_)
  try simp only [nz]
  refine wl_give rfl (g_cM hM (kf41 _ _) (upto_y (o - b) (o + b) w15 h0) rfl fun w17 hM => wl_fare kn ?_)
  simp (disch := omega) only [fx, pv, kx]
  refine wl_give rfl (g_load_all 60 _ (w11.heap.size) (Wd.nl (p - c)) 60 _ rfl (hM.get 1 rfl) Tryd.underlying60 rfl (Wd.szN _) ?_)
  try simp only [nz]
  refine wl_give rfl (g_load_all 60 _ (w12.heap.size) (Wd.nl (p + c)) 60 _ rfl (hM.get 0 rfl) Tryd.underlying60 rfl (Wd.szN _) ?_)
  try simp only [nz]
  refine wl_give rfl (g_cM hM (kf41 _ _) (upto_y (p - c) (p + c) w17 h1) rfl fun w18 hM => wl_fare kn ?_)
  simp (disch := omega) only [fx, pv, kx]
  refine wl_give rfl (g_load_all 60 _ (w5.heap.size) (Wd.nl (o - b)) 60 _ rfl (hM.get 3 rfl) Tryd.underlying60 rfl (Wd.szN _) ?_)
  try simp only [nz]
  refine wl_give rfl (g_load_all 60 _ (w12.heap.size) (Wd.nl (p + c)) 60 _ rfl (hM.get 0 rfl) Tryd.underlying60 rfl (Wd.szN _) ?_)
  try simp only [nz]
  refine wl_give rfl (g_cM hM (kf41 _ _) (upto_n (o - b) (p + c) w18 h2) rfl fun w19 hM => wl_fare kn ?_)
  simp (config := { maxSteps := 10000000 }) (disch := omega) only [fx, pv, kx]
  refine wl_nil (κ16 _ _ ?_)
  refine wp_ret ?_
  go_ret
  exact ⟨rfl, hM.below⟩
set_option maxHeartbeats 8000000 in
theorem wi_3 (o d b p e c : Int) (w : World) (ho : Wd.In64 o) (hb : Wd.In64 b) (hp : Wd.In64 p) (hc : Wd.In64 c) (h0 : o - b ≤ o + b) (h1 : p - c ≤ p + c) (h2 : o - b ≤ p + c) (h3 : ¬ p - c ≤ o + b) : Calls Tryd.prog 13 #[.agg (smc o d b).toArray, .agg (smc p e c).toArray] w fun e w' => e = .returned (.bool false) ∧ Below w.heap.size w w' := by
  have hM := Ms.refl w
  go_enter Tryd.func13, Tryd.ntmps13
  refine wp_seq_k fun _ κ1 => wl_region (wl_give rfl (g_box 23 _ (smc (o) (d) (b)) rfl ?_))
  intro w2 t_ b_
  replace hM := hM.new t_ b_
  clear t_ b_
  try simp only [nz]
  refine wl_give rfl (g_box 23 _ (smc (p) (e) (c)) rfl fun w3 t_ b_ => ?_)
  replace hM := hM.new t_ b_
  clear t_ b_
  refine wl_fare kn ?_
  simp (disch := omega) only [fx, pv, kx]
  refine wl_nil (κ1 _ _ ?_)
  refine wp_seq_k fun _ κ4 => wl_region (wl_give rfl (g_load_all 23 _ (w.heap.size) (smc (o) (d) (b)) 23 _ rfl (hM.get 1 rfl) Tryd.underlying23 rfl (szSm _ _ _) ?_))
  try simp only [nz]
  refine wl_give rfl (g_cM hM (kf40 _ _) (ends_any o d b w3 ho hb) rfl fun w5 hM => wl_fare kn ?_)
  simp (disch := omega) only [fx, pv, kx]
  refine wl_give rfl (g_alloc 60 (Wd.nl (0)) Wd.zeroN fun w6 t_ b_ => ?_)
  replace hM := hM.new t_ b_
  clear t_ b_
  try simp only [nz]
  refine wl_give rfl (g_alloc 60 (Wd.nl (0)) Wd.zeroN fun w7 t_ b_ => ?_)
  replace hM := hM.new t_ b_
  clear t_ b_
  try simp only [nz]
  refine wl_give rfl (g_store_all 60 _ _ (w5.heap.size) (Wd.nl (o - b)) _ 60 rfl rfl (hM.get 1 rfl) (Wd.szN _) (rfl) (Wd.one_nl _) fun w8 t_ b_ => ?_)
  replace hM : Ms w w8 [blk (w6.heap.size) (Wd.nl (0)) 60, blk (w5.heap.size) (Wd.nl (o - b)) 60, blk (w2.heap.size) (smc (p) (e) (c)) 23, blk (w.heap.size) (smc (o) (d) (b)) 23] := hM.put 1 rfl t_ b_
  clear t_ b_
  try simp only [nz]
  refine wl_give rfl (g_store_all 60 _ _ (w6.heap.size) (Wd.nl (o + b)) _ 60 rfl rfl (hM.get 0 rfl) (Wd.szN _) (rfl) (Wd.one_nl _) fun w9 t_ b_ => ?_)
  replace hM : Ms w w9 [blk (w6.heap.size) (Wd.nl (o + b)) 60, blk (w5.heap.size) (Wd.nl (o - b)) 60, blk (w2.heap.size) (smc (p) (e) (c)) 23, blk (w.heap.size) (smc (o) (d) (b)) 23] := hM.put 0 rfl t_ b_
  clear t_ b_
  try simp only [nz]
  refine wl_nil (κ4 _ _ ?_)
  refine wp_seq_k fun _ κ10 => wl_region (wl_give rfl (g_load_all 23 _ (w2.heap.size) (smc (p) (e) (c)) 23 _ rfl (hM.get 2 rfl) Tryd.underlying23 rfl (szSm _ _ _) ?_))
  try simp only [nz]
  refine wl_give rfl (g_cM hM (kf40 _ _) (ends_any p e c w9 hp hc) rfl fun w11 hM => wl_fare kn ?_)
  simp (disch := omega) only [fx, pv, kx]
  refine wl_give rfl (g_alloc 60 (Wd.nl (0)) Wd.zeroN fun w12 t_ b_ => ?_)
  replace hM := hM.new t_ b_
  clear t_ b_
  try simp only [nz]
  refine wl_give rfl (g_alloc 60 (Wd.nl (0)) Wd.zeroN fun w13 t_ b_ => ?_)
  replace hM := hM.new t_ b_
  clear t_ b_
  try simp only [nz]
  refine wl_give rfl (g_store_all 60 _ _ (w11.heap.size) (Wd.nl (p - c)) _ 60 rfl rfl (hM.get 1 rfl) (Wd.szN _) (rfl) (Wd.one_nl _) fun w14 t_ b_ => ?_)
  replace hM : Ms w w14 [blk (w12.heap.size) (Wd.nl (0)) 60, blk (w11.heap.size) (Wd.nl (p - c)) 60, blk (w6.heap.size) (Wd.nl (o + b)) 60, blk (w5.heap.size) (Wd.nl (o - b)) 60, blk (w2.heap.size) (smc (p) (e) (c)) 23, blk (w.heap.size) (smc (o) (d) (b)) 23] := hM.put 1 rfl t_ b_
  clear t_ b_
  try simp only [nz]
  refine wl_give rfl (g_store_all 60 _ _ (w12.heap.size) (Wd.nl (p + c)) _ 60 rfl rfl (hM.get 0 rfl) (Wd.szN _) (rfl) (Wd.one_nl _) fun w15 t_ b_ => ?_)
  replace hM : Ms w w15 [blk (w12.heap.size) (Wd.nl (p + c)) 60, blk (w11.heap.size) (Wd.nl (p - c)) 60, blk (w6.heap.size) (Wd.nl (o + b)) 60, blk (w5.heap.size) (Wd.nl (o - b)) 60, blk (w2.heap.size) (smc (p) (e) (c)) 23, blk (w.heap.size) (smc (o) (d) (b)) 23] := hM.put 0 rfl t_ b_
  clear t_ b_
  try simp only [nz]
  refine wl_nil (κ10 _ _ ?_)
  refine wp_seq_k fun _ κ16 => wl_region (wl_give rfl (g_load_all 60 _ (w5.heap.size) (Wd.nl (o - b)) 60 _ rfl (hM.get 3 rfl) Tryd.underlying60 rfl (Wd.szN _) ?_))
  try simp only [nz]
  refine wl_give rfl (g_load_all 60 _ (w6.heap.size) (Wd.nl (o + b)) 60 _ rfl (hM.get 2 rfl) Tryd.underlying60 rfl (Wd.szN _) ?_)
  try simp only [nz]
  refine wl_give rfl (g_cM hM (kf41 _ _) (upto_y (o - b) (o + b) w15 h0) rfl fun w17 hM => wl_fare kn ?_)
  simp (disch := omega) only [fx, pv, kx]
  refine wl_give rfl (g_load_all 60 _ (w11.heap.size) (Wd.nl (p - c)) 60 _ rfl (hM.get 1 rfl) Tryd.underlying60 rfl (Wd.szN _) ?_)
  try simp only [nz]
  refine wl_give rfl (g_load_all 60 _ (w12.heap.size) (Wd.nl (p + c)) 60 _ rfl (hM.get 0 rfl) Tryd.underlying60 rfl (Wd.szN _) ?_)
  try simp only [nz]
  refine wl_give rfl (g_cM hM (kf41 _ _) (upto_y (p - c) (p + c) w17 h1) rfl fun w18 hM => wl_fare kn ?_)
  simp (disch := omega) only [fx, pv, kx]
  refine wl_give rfl (g_load_all 60 _ (w5.heap.size) (Wd.nl (o - b)) 60 _ rfl (hM.get 3 rfl) Tryd.underlying60 rfl (Wd.szN _) ?_)
  try simp only [nz]
  refine wl_give rfl (g_load_all 60 _ (w12.heap.size) (Wd.nl (p + c)) 60 _ rfl (hM.get 0 rfl) Tryd.underlying60 rfl (Wd.szN _) ?_)
  try simp only [nz]
  refine wl_give rfl (g_cM hM (kf41 _ _) (upto_y (o - b) (p + c) w18 h2) rfl fun w19 hM => wl_fare kn ?_)
  simp (disch := omega) only [fx, pv, kx]
  refine wl_give rfl (g_load_all 60 _ (w11.heap.size) (Wd.nl (p - c)) 60 _ rfl (hM.get 1 rfl) Tryd.underlying60 rfl (Wd.szN _) ?_)
  try simp only [nz]
  refine wl_give rfl (g_load_all 60 _ (w6.heap.size) (Wd.nl (o + b)) 60 _ rfl (hM.get 2 rfl) Tryd.underlying60 rfl (Wd.szN _) ?_)
  try simp only [nz]
  refine wl_give rfl (g_cM hM (kf41 _ _) (upto_n (p - c) (o + b) w19 h3) rfl fun w20 hM => wl_fare kn ?_)
  simp (disch := omega) only [fx, pv, kx]
  refine wl_nil (κ16 _ _ ?_)
  refine wp_ret ?_
  go_ret
  exact ⟨rfl, hM.below⟩
set_option maxHeartbeats 8000000 in
theorem wi_4 (o d b p e c : Int) (w : World) (ho : Wd.In64 o) (hb : Wd.In64 b) (hp : Wd.In64 p) (hc : Wd.In64 c) (h0 : o - b ≤ o + b) (h1 : p - c ≤ p + c) (h2 : o - b ≤ p + c) (h3 : p - c ≤ o + b) : Calls Tryd.prog 13 #[.agg (smc o d b).toArray, .agg (smc p e c).toArray] w fun e w' => e = .returned (.bool true) ∧ Below w.heap.size w w' := by
  have hM := Ms.refl w
  go_enter Tryd.func13, Tryd.ntmps13
  refine wp_seq_k fun _ κ1 => wl_region (wl_give rfl (g_box 23 _ (smc (o) (d) (b)) rfl ?_))
  intro w2 t_ b_
  replace hM := hM.new t_ b_
  clear t_ b_
  try simp only [nz]
  refine wl_give rfl (g_box 23 _ (smc (p) (e) (c)) rfl fun w3 t_ b_ => ?_)
  replace hM := hM.new t_ b_
  clear t_ b_
  refine wl_fare kn ?_
  simp (disch := omega) only [fx, pv, kx]
  refine wl_nil (κ1 _ _ ?_)
  refine wp_seq_k fun _ κ4 => wl_region (wl_give rfl (g_load_all 23 _ (w.heap.size) (smc (o) (d) (b)) 23 _ rfl (hM.get 1 rfl) Tryd.underlying23 rfl (szSm _ _ _) ?_))
  try simp only [nz]
  refine wl_give rfl (g_cM hM (kf40 _ _) (ends_any o d b w3 ho hb) rfl fun w5 hM => wl_fare kn ?_)
  simp (disch := omega) only [fx, pv, kx]
  refine wl_give rfl (g_alloc 60 (Wd.nl (0)) Wd.zeroN fun w6 t_ b_ => ?_)
  replace hM := hM.new t_ b_
  clear t_ b_
  try simp only [nz]
  refine wl_give rfl (g_alloc 60 (Wd.nl (0)) Wd.zeroN fun w7 t_ b_ => ?_)
  replace hM := hM.new t_ b_
  clear t_ b_
  try simp only [nz]
  refine wl_give rfl (g_store_all 60 _ _ (w5.heap.size) (Wd.nl (o - b)) _ 60 rfl rfl (hM.get 1 rfl) (Wd.szN _) (rfl) (Wd.one_nl _) fun w8 t_ b_ => ?_)
  replace hM : Ms w w8 [blk (w6.heap.size) (Wd.nl (0)) 60, blk (w5.heap.size) (Wd.nl (o - b)) 60, blk (w2.heap.size) (smc (p) (e) (c)) 23, blk (w.heap.size) (smc (o) (d) (b)) 23] := hM.put 1 rfl t_ b_
  clear t_ b_
  try simp only [nz]
  refine wl_give rfl (g_store_all 60 _ _ (w6.heap.size) (Wd.nl (o + b)) _ 60 rfl rfl (hM.get 0 rfl) (Wd.szN _) (rfl) (Wd.one_nl _) fun w9 t_ b_ => ?_)
  replace hM : Ms w w9 [blk (w6.heap.size) (Wd.nl (o + b)) 60, blk (w5.heap.size) (Wd.nl (o - b)) 60, blk (w2.heap.size) (smc (p) (e) (c)) 23, blk (w.heap.size) (smc (o) (d) (b)) 23] := hM.put 0 rfl t_ b_
  clear t_ b_
  try simp only [nz]
  refine wl_nil (κ4 _ _ ?_)
  refine wp_seq_k fun _ κ10 => wl_region (wl_give rfl (g_load_all 23 _ (w2.heap.size) (smc (p) (e) (c)) 23 _ rfl (hM.get 2 rfl) Tryd.underlying23 rfl (szSm _ _ _) ?_))
  try simp only [nz]
  refine wl_give rfl (g_cM hM (kf40 _ _) (ends_any p e c w9 hp hc) rfl fun w11 hM => wl_fare kn ?_)
  simp (disch := omega) only [fx, pv, kx]
  refine wl_give rfl (g_alloc 60 (Wd.nl (0)) Wd.zeroN fun w12 t_ b_ => ?_)
  replace hM := hM.new t_ b_
  clear t_ b_
  try simp only [nz]
  refine wl_give rfl (g_alloc 60 (Wd.nl (0)) Wd.zeroN fun w13 t_ b_ => ?_)
  replace hM := hM.new t_ b_
  clear t_ b_
  try simp only [nz]
  refine wl_give rfl (g_store_all 60 _ _ (w11.heap.size) (Wd.nl (p - c)) _ 60 rfl rfl (hM.get 1 rfl) (Wd.szN _) (rfl) (Wd.one_nl _) fun w14 t_ b_ => ?_)
  replace hM : Ms w w14 [blk (w12.heap.size) (Wd.nl (0)) 60, blk (w11.heap.size) (Wd.nl (p - c)) 60, blk (w6.heap.size) (Wd.nl (o + b)) 60, blk (w5.heap.size) (Wd.nl (o - b)) 60, blk (w2.heap.size) (smc (p) (e) (c)) 23, blk (w.heap.size) (smc (o) (d) (b)) 23] := hM.put 1 rfl t_ b_
  clear t_ b_
  try simp only [nz]
  refine wl_give rfl (g_store_all 60 _ _ (w12.heap.size) (Wd.nl (p + c)) _ 60 rfl rfl (hM.get 0 rfl) (Wd.szN _) (rfl) (Wd.one_nl _) fun w15 t_ b_ => ?_)
  replace hM : Ms w w15 [blk (w12.heap.size) (Wd.nl (p + c)) 60, blk (w11.heap.size) (Wd.nl (p - c)) 60, blk (w6.heap.size) (Wd.nl (o + b)) 60, blk (w5.heap.size) (Wd.nl (o - b)) 60, blk (w2.heap.size) (smc (p) (e) (c)) 23, blk (w.heap.size) (smc (o) (d) (b)) 23] := hM.put 0 rfl t_ b_
  clear t_ b_
  try simp only [nz]
  refine wl_nil (κ10 _ _ ?_)
  refine wp_seq_k fun _ κ16 => wl_region (wl_give rfl (g_load_all 60 _ (w5.heap.size) (Wd.nl (o - b)) 60 _ rfl (hM.get 3 rfl) Tryd.underlying60 rfl (Wd.szN _) ?_))
  try simp only [nz]
  refine wl_give rfl (g_load_all 60 _ (w6.heap.size) (Wd.nl (o + b)) 60 _ rfl (hM.get 2 rfl) Tryd.underlying60 rfl (Wd.szN _) ?_)
  try simp only [nz]
  refine wl_give rfl (g_cM hM (kf41 _ _) (upto_y (o - b) (o + b) w15 h0) rfl fun w17 hM => wl_fare kn ?_)
  simp (disch := omega) only [fx, pv, kx]
  refine wl_give rfl (g_load_all 60 _ (w11.heap.size) (Wd.nl (p - c)) 60 _ rfl (hM.get 1 rfl) Tryd.underlying60 rfl (Wd.szN _) ?_)
  try simp only [nz]
  refine wl_give rfl (g_load_all 60 _ (w12.heap.size) (Wd.nl (p + c)) 60 _ rfl (hM.get 0 rfl) Tryd.underlying60 rfl (Wd.szN _) ?_)
  try simp only [nz]
  refine wl_give rfl (g_cM hM (kf41 _ _) (upto_y (p - c) (p + c) w17 h1) rfl fun w18 hM => wl_fare kn ?_)
  simp (disch := omega) only [fx, pv, kx]
  refine wl_give rfl (g_load_all 60 _ (w5.heap.size) (Wd.nl (o - b)) 60 _ rfl (hM.get 3 rfl) Tryd.underlying60 rfl (Wd.szN _) ?_)
  try simp only [nz]
  refine wl_give rfl (g_load_all 60 _ (w12.heap.size) (Wd.nl (p + c)) 60 _ rfl (hM.get 0 rfl) Tryd.underlying60 rfl (Wd.szN _) ?_)
  try simp only [nz]
  refine wl_give rfl (g_cM hM (kf41 _ _) (upto_y (o - b) (p + c) w18 h2) rfl fun w19 hM => wl_fare kn ?_)
  simp (disch := omega) only [fx, pv, kx]
  refine wl_give rfl (g_load_all 60 _ (w11.heap.size) (Wd.nl (p - c)) 60 _ rfl (hM.get 1 rfl) Tryd.underlying60 rfl (Wd.szN _) ?_)
  try simp only [nz]
  refine wl_give rfl (g_load_all 60 _ (w6.heap.size) (Wd.nl (o + b)) 60 _ rfl (hM.get 2 rfl) Tryd.underlying60 rfl (Wd.szN _) ?_)
  try simp only [nz]
  refine wl_give rfl (g_cM hM (kf41 _ _) (upto_y (p - c) (o + b) w19 h3) rfl fun w20 hM => wl_fare kn ?_)
  simp (disch := omega) only [fx, pv, kx]
  refine wl_nil (κ16 _ _ ?_)
  refine wp_ret ?_
  go_ret
  exact ⟨rfl, hM.below⟩
theorem within_any (o d b p e c : Int) (w : World) (ho : Wd.In64 o) (hb : Wd.In64 b) (hp : Wd.In64 p) (hc : Wd.In64 c) (B : Bool) (hB : Shut (wth o b p c = B)) : Calls Tryd.prog 13 #[.agg (smc o d b).toArray, .agg (smc p e c).toArray] w fun e w' => e = .returned (.bool B) ∧ Below w.heap.size w w' := by
  have h := hB.out
  unfold wth at h
  by_cases h0 : o - b ≤ o + b
  · by_cases h1 : p - c ≤ p + c
    · by_cases h2 : o - b ≤ p + c
      · by_cases h3 : p - c ≤ o + b
        · rw [decide_eq_true (by omega)] at h; subst h; exact wi_4 o d b p e c w ho hb hp hc h0 h1 h2 h3
        · rw [decide_eq_false (by omega)] at h; subst h; exact wi_3 o d b p e c w ho hb hp hc h0 h1 h2 h3
      · rw [decide_eq_false (by omega)] at h; subst h; exact wi_2 o d b p e c w ho hb hp hc h0 h1 h2
    · rw [decide_eq_false (by omega)] at h; subst h; exact wi_1 o d b p e c w ho hb hp hc h0 h1
  · rw [decide_eq_false (by omega)] at h; subst h; exact wi_0 o d b p e c w ho hb hp hc h0
end Go.Proofs.YtpenicjlpiechaaDoor
