/- VolleyRounds: the walk. -/
import Derived.Test.YtpenicjlpiechaaDoorQVoAw
import Derived.Test.YtpenicjlpiechaaDoorQArgs
import Derived.Test.YtpenicjlpiechaaDoorQVo3
import Derived.Test.YtpenicjlpiechaaDoorQVRef2
import Derived.Test.YtpenicjlpiechaaDoorQVRef3
import Derived.WalkKit
import Derived.WalkSpells
import Derived.WalkLawsBesides
namespace Go.Proofs.YtpenicjlpiechaaDoor.volleyRounds
set_option maxRecDepth 10000
open Go Go.RowKit
set_option linter.unusedVariables false
set_option linter.unusedSimpArgs false

set_option maxHeartbeats 8000000 in
theorem walk_t (t1 t2 t3 t4 r o d b p e c : Int) (w : World) (hT : Tabs w) (i1 : Shut (Wd.In64 t1)) (i2 : Shut (Wd.In64 t2)) (i3 : Shut (Wd.In64 t3)) (i4 : Shut (Wd.In64 t4)) (io : Shut (Wd.In64 o)) (ib : Shut (Wd.In64 b)) (ip : Shut (Wd.In64 p)) (ic : Shut (Wd.In64 c)) (O D B E : Int) (hv : Shut (vrd t1 t2 t3 t4 r = ((O, D, B), E))) (hW : Shut (wth o b p c = true)) : Calls Tryd.prog 3 #[.int .i64 t1, .int .i64 t2, .int .i64 t3, .int .i64 t4, .int .i64 r, .agg (smc o d b).toArray, .agg (smc p e c).toArray] w fun e w' => e = .returned (.bool true) ∧ Below w.heap.size w w' := by
  have hM := Ms.refl w
  go_enter Tryd.func3, Tryd.ntmps3
  refine wp_seq_k fun _ κ1 => wl_region (wl_give rfl (g_box 23 _ (smc (o) (d) (b)) rfl ?_))
  intro w2 t_ b_
  replace hM := hM.new t_ b_
  clear t_ b_
  try simp only [nz]
  refine wl_give rfl (g_box 23 _ (smc (p) (e) (c)) rfl fun w3 t_ b_ => ?_)
  replace hM := hM.new t_ b_
  clear t_ b_
  refine wl_fare kn ?_
  simp (disch := omega) only [fx, pv, kx]
  refine wl_nil (κ1 _ _ ?_)
  refine wp_seq_k fun _ κ4 => wp_seq_k fun _ κ5 => wl_region (wl_give rfl (g_cM hM (kf10 _ _) (awake_any w3 (hM.tabs hT)) rfl ?_))
  intro w6 hM
  refine wl_fare kn ?_
  simp (disch := omega) only [fx, pv, kx]
  refine wl_nil (κ5 _ _ ?_)
  refine wp_cond_false rfl (wp_skip ?_)
  refine κ4 _ _ (wp_seq_k fun _ κ7 => ?_)
  refine wl_region (wl_fare kn ?_)
  simp (config := { maxSteps := 10000000 }) (disch := omega) only [fx, pv, kx]
  refine wl_give rfl (g_cM hM (kf11 _ _) (round_any (t1) (t2) (t3) (t4) (r) w6 i1.out i2.out i3.out i4.out (O) (D) (B) (E) hv) rfl fun w8 hM => wl_fare kn ?_)
  simp (config := { maxSteps := 10000000 }) (disch := omega) only [fx, pv, kx]
  refine wl_give rfl (g_alloc 23 (smc (0) (0) (0)) zeroSm fun w9 t_ b_ => ?_)
  replace hM := hM.new t_ b_
  clear t_ b_
  try simp only [nz]
  refine wl_give rfl (g_store_all 23 _ _ (w8.heap.size) (smc (O) (D) (B)) _ 23 rfl rfl (hM.get 0 rfl) (szSm _ _ _) (rfl) (one_smc _ _ _) fun w10 t_ b_ => ?_)
  replace hM : Ms w w10 [blk (w8.heap.size) (smc (O) (D) (B)) 23, blk (w2.heap.size) (smc (p) (e) (c)) 23, blk (w.heap.size) (smc (o) (d) (b)) 23] := hM.put 0 rfl t_ b_
  clear t_ b_
  refine wl_fare kn ?_
  simp (disch := omega) only [fx, pv, kx]
  refine wl_nil (κ7 _ _ ?_)
  refine wp_seq_k fun _ κ11 => wl_region (wl_fare kn ?_)
  simp (config := { maxSteps := 10000000 }) (disch := omega) only [fx, pv, kx]
  refine wl_give rfl (g_cM hM (kf12 _ _) (Wd.vround_any (t1) (t2) (t3) (t4) (r) w10 i1.out i2.out i3.out i4.out (O) (D) (B) (E) hv) rfl fun w12 hM => wl_fare kn ?_)
  simp (config := { maxSteps := 10000000 }) (disch := omega) only [fx, pv, kx]
  refine wl_give rfl (g_alloc 28 (smc (0) (0) (0)) zeroRs fun w13 t_ b_ => ?_)
  replace hM := hM.new t_ b_
  clear t_ b_
  try simp only [nz]
  refine wl_give rfl (g_store_all 28 _ _ (w12.heap.size) (smc (O) (D) (B)) _ 28 rfl rfl (hM.get 0 rfl) (szRs _ _ _) (rfl) (one_smc _ _ _) fun w14 t_ b_ => ?_)
  replace hM : Ms w w14 [blk (w12.heap.size) (smc (O) (D) (B)) 28, blk (w8.heap.size) (smc (O) (D) (B)) 23, blk (w2.heap.size) (smc (p) (e) (c)) 23, blk (w.heap.size) (smc (o) (d) (b)) 23] := hM.put 0 rfl t_ b_
  clear t_ b_
  refine wl_fare kn ?_
  simp (disch := omega) only [fx, pv, kx]
  refine wl_nil (κ11 _ _ ?_)
  refine wp_seq_k fun _ κ15 => ?_
  refine wp_region_fixed (by kernel_rfl) (by kernel_rfl) [.agg (smc (O) (D) (B)).toArray, .agg (smc (O) (D) (B)).toArray, .bool true, .bool true, .int .i64 (E), .int .i64 (E), .bool true, .bool true, .bool true, .agg (smc (o) (d) (b)).toArray, .agg (smc (p) (e) (c)).toArray, .bool true, .agg (smc (o) (d) (b)).toArray, .agg (smc (p) (e) (c)).toArray, .bool true, .bool true, .bool true, .bool true] (by rfl) (fun wx => Ms w wx [blk (w12.heap.size) (smc (O) (D) (B)) 28, blk (w8.heap.size) (smc (O) (D) (B)) 23, blk (w2.heap.size) (smc (p) (e) (c)) 23, blk (w.heap.size) (smc (o) (d) (b)) 23]) hM.drew ?_ ?_
  · simp only [fullL, Act.put, st_a, st_s, st_0]
    refine ⟨?_, ?_, ?_, ?_, ?_, ?_, ?_, ?_, ?_, ?_, ?_, ?_, ?_, ?_, ?_, ?_, ?_, ?_, trivial⟩
    · exact fun wx hM => gw rfl (g_load_all 23 _ (w8.heap.size) (smc (O) (D) (B)) 23 _ rfl (hM.get 1 rfl) Tryd.underlying23 rfl (szSm _ _ _) ⟨rfl, hM⟩)
    · exact fun wx hM => gw rfl (g_load_all 28 _ (w12.heap.size) (smc (O) (D) (B)) 28 _ rfl (hM.get 0 rfl) Tryd.underlying28 rfl (szRs _ _ _) ⟨rfl, hM⟩)
    · exact fun wx hM => gw rfl (g_eqlRs _ _ (O) (D) (B) (O) (D) (B) true rfl rfl (decide_eq_true ⟨rfl, rfl, rfl⟩) ⟨rfl, hM⟩)
    · exact mvL rfl rfl
    · exact mvL rfl rfl
    · exact mvL rfl rfl
    · exact fun wx hM => gw rfl (g_ieq 25 _ _ .i64 (E) (E) true rfl rfl (decide_eq_true rfl) ⟨rfl, hM⟩)
    · exact ptL rfl rfl rfl
    · exact mvL rfl rfl
    · exact fun wx hM => gw rfl (g_load_all 23 _ (w.heap.size) (smc (o) (d) (b)) 23 _ rfl (hM.get 3 rfl) Tryd.underlying23 rfl (szSm _ _ _) ⟨rfl, hM⟩)
    · exact fun wx hM => gw rfl (g_load_all 23 _ (w2.heap.size) (smc (p) (e) (c)) 23 _ rfl (hM.get 2 rfl) Tryd.underlying23 rfl (szSm _ _ _) ⟨rfl, hM⟩)
    · exact fun wx hM => gw rfl (g_call 13 _ _ [.agg (smc (o) (d) (b)).toArray, .agg (smc (p) (e) (c)).toArray] (kf13 _ _) rfl ((within_any (o) (d) (b) (p) (e) (c) wx io.out ib.out ip.out ic.out true hW).mono (fun _ _ ⟨h1_, h2_⟩ => ⟨_, h1_, rfl, hM.call h2_⟩)))
    · exact fun wx hM => gw rfl (g_load_all 23 _ (w.heap.size) (smc (o) (d) (b)) 23 _ rfl (hM.get 3 rfl) Tryd.underlying23 rfl (szSm _ _ _) ⟨rfl, hM⟩)
    · exact fun wx hM => gw rfl (g_load_all 23 _ (w2.heap.size) (smc (p) (e) (c)) 23 _ rfl (hM.get 2 rfl) Tryd.underlying23 rfl (szSm _ _ _) ⟨rfl, hM⟩)
    · exact fun wx hM => gw rfl (g_call 14 _ _ [.agg (smc (o) (d) (b)).toArray, .agg (smc (p) (e) (c)).toArray] (kf14 _ _) rfl ((Wd.vwith_any (o) (d) (b) (p) (e) (c) wx io.out ib.out ip.out ic.out true hW).mono (fun _ _ ⟨h1_, h2_⟩ => ⟨_, h1_, rfl, hM.call h2_⟩)))
    · exact fun wx hM => gw rfl (g_beq _ _ true true true rfl rfl (rfl) ⟨rfl, hM⟩)
    · exact ptL rfl rfl rfl
    · exact asL rfl rfl
  · simp only [fullL, Act.put, st_a, st_s, st_0]
    intro w16 hM
    refine κ15 _ _ (wp_ret ?_)
    go_ret
    exact ⟨rfl, hM.below⟩
set_option maxHeartbeats 8000000 in
theorem walk_f (t1 t2 t3 t4 r o d b p e c : Int) (w : World) (hT : Tabs w) (i1 : Shut (Wd.In64 t1)) (i2 : Shut (Wd.In64 t2)) (i3 : Shut (Wd.In64 t3)) (i4 : Shut (Wd.In64 t4)) (io : Shut (Wd.In64 o)) (ib : Shut (Wd.In64 b)) (ip : Shut (Wd.In64 p)) (ic : Shut (Wd.In64 c)) (O D B E : Int) (hv : Shut (vrd t1 t2 t3 t4 r = ((O, D, B), E))) (hW : Shut (wth o b p c = false)) : Calls Tryd.prog 3 #[.int .i64 t1, .int .i64 t2, .int .i64 t3, .int .i64 t4, .int .i64 r, .agg (smc o d b).toArray, .agg (smc p e c).toArray] w fun e w' => e = .returned (.bool true) ∧ Below w.heap.size w w' := by
  have hM := Ms.refl w
  go_enter Tryd.func3, Tryd.ntmps3
  refine wp_seq_k fun _ κ1 => wl_region (wl_give rfl (g_box 23 _ (smc (o) (d) (b)) rfl ?_))
  intro w2 t_ b_
  replace hM := hM.new t_ b_
  clear t_ b_
  try simp only [nz]
  refine wl_give rfl (g_box 23 _ (smc (p) (e) (c)) rfl fun w3 t_ b_ => ?_)
  replace hM := hM.new t_ b_
  clear t_ b_
  refine wl_fare kn ?_
  simp (disch := omega) only [fx, pv, kx]
  refine wl_nil (κ1 _ _ ?_)
  refine wp_seq_k fun _ κ4 => wp_seq_k fun _ κ5 => wl_region (wl_give rfl (g_cM hM (kf10 _ _) (awake_any w3 (hM.tabs hT)) rfl ?_))
  intro w6 hM
  refine wl_fare kn ?_
  simp (disch := omega) only [fx, pv, kx]
  refine wl_nil (κ5 _ _ ?_)
  refine wp_cond_false rfl (wp_skip ?_)
  refine κ4 _ _ (wp_seq_k fun _ κ7 => ?_)
  refine wl_region (wl_fare kn ?_)
  simp (config := { maxSteps := 10000000 }) (disch := omega) only [fx, pv, kx]
  refine wl_give rfl (g_cM hM (kf11 _ _) (round_any (t1) (t2) (t3) (t4) (r) w6 i1.out i2.out i3.out i4.out (O) (D) (B) (E) hv) rfl fun w8 hM => wl_fare kn ?_)
  simp (config := { maxSteps := 10000000 }) (disch := omega) only [fx, pv, kx]
  refine wl_give rfl (g_alloc 23 (smc (0) (0) (0)) zeroSm fun w9 t_ b_ => ?_)
  replace hM := hM.new t_ b_
  clear t_ b_
  try simp only [nz]
  refine wl_give rfl (g_store_all 23 _ _ (w8.heap.size) (smc (O) (D) (B)) _ 23 rfl rfl (hM.get 0 rfl) (szSm _ _ _) (rfl) (one_smc _ _ _) fun w10 t_ b_ => ?_)
  replace hM : Ms w w10 [blk (w8.heap.size) (smc (O) (D) (B)) 23, blk (w2.heap.size) (smc (p) (e) (c)) 23, blk (w.heap.size) (smc (o) (d) (b)) 23] := hM.put 0 rfl t_ b_
  clear t_ b_
  refine wl_fare kn ?_
  simp (disch := omega) only [fx, pv, kx]
  refine wl_nil (κ7 _ _ ?_)
  refine wp_seq_k fun _ κ11 => wl_region (wl_fare kn ?_)
  simp (config := { maxSteps := 10000000 }) (disch := omega) only [fx, pv, kx]
  refine wl_give rfl (g_cM hM (kf12 _ _) (Wd.vround_any (t1) (t2) (t3) (t4) (r) w10 i1.out i2.out i3.out i4.out (O) (D) (B) (E) hv) rfl fun w12 hM => wl_fare kn ?_)
  simp (config := { maxSteps := 10000000 }) (disch := omega) only [fx, pv, kx]
  refine wl_give rfl (g_alloc 28 (smc (0) (0) (0)) zeroRs fun w13 t_ b_ => ?_)
  replace hM := hM.new t_ b_
  clear t_ b_
  try simp only [nz]
  refine wl_give rfl (g_store_all 28 _ _ (w12.heap.size) (smc (O) (D) (B)) _ 28 rfl rfl (hM.get 0 rfl) (szRs _ _ _) (rfl) (one_smc _ _ _) fun w14 t_ b_ => ?_)
  replace hM : Ms w w14 [blk (w12.heap.size) (smc (O) (D) (B)) 28, blk (w8.heap.size) (smc (O) (D) (B)) 23, blk (w2.heap.size) (smc (p) (e) (c)) 23, blk (w.heap.size) (smc (o) (d) (b)) 23] := hM.put 0 rfl t_ b_
  clear t_ b_
  refine wl_fare kn ?_
  simp (disch := omega) only [fx, pv, kx]
  refine wl_nil (κ11 _ _ ?_)
  refine wp_seq_k fun _ κ15 => ?_
  refine wp_region_fixed (by kernel_rfl) (by kernel_rfl) [.agg (smc (O) (D) (B)).toArray, .agg (smc (O) (D) (B)).toArray, .bool true, .bool true, .int .i64 (E), .int .i64 (E), .bool true, .bool true, .bool true, .agg (smc (o) (d) (b)).toArray, .agg (smc (p) (e) (c)).toArray, .bool false, .agg (smc (o) (d) (b)).toArray, .agg (smc (p) (e) (c)).toArray, .bool false, .bool true, .bool true, .bool true] (by rfl) (fun wx => Ms w wx [blk (w12.heap.size) (smc (O) (D) (B)) 28, blk (w8.heap.size) (smc (O) (D) (B)) 23, blk (w2.heap.size) (smc (p) (e) (c)) 23, blk (w.heap.size) (smc (o) (d) (b)) 23]) hM.drew ?_ ?_
  · simp only [fullL, Act.put, st_a, st_s, st_0]
    refine ⟨?_, ?_, ?_, ?_, ?_, ?_, ?_, ?_, ?_, ?_, ?_, ?_, ?_, ?_, ?_, ?_, ?_, ?_, trivial⟩
    · exact fun wx hM => gw rfl (g_load_all 23 _ (w8.heap.size) (smc (O) (D) (B)) 23 _ rfl (hM.get 1 rfl) Tryd.underlying23 rfl (szSm _ _ _) ⟨rfl, hM⟩)
    · exact fun wx hM => gw rfl (g_load_all 28 _ (w12.heap.size) (smc (O) (D) (B)) 28 _ rfl (hM.get 0 rfl) Tryd.underlying28 rfl (szRs _ _ _) ⟨rfl, hM⟩)
    · exact fun wx hM => gw rfl (g_eqlRs _ _ (O) (D) (B) (O) (D) (B) true rfl rfl (decide_eq_true ⟨rfl, rfl, rfl⟩) ⟨rfl, hM⟩)
    · exact mvL rfl rfl
    · exact mvL rfl rfl
    · exact mvL rfl rfl
    · exact fun wx hM => gw rfl (g_ieq 25 _ _ .i64 (E) (E) true rfl rfl (decide_eq_true rfl) ⟨rfl, hM⟩)
    · exact ptL rfl rfl rfl
    · exact mvL rfl rfl
    · exact fun wx hM => gw rfl (g_load_all 23 _ (w.heap.size) (smc (o) (d) (b)) 23 _ rfl (hM.get 3 rfl) Tryd.underlying23 rfl (szSm _ _ _) ⟨rfl, hM⟩)
    · exact fun wx hM => gw rfl (g_load_all 23 _ (w2.heap.size) (smc (p) (e) (c)) 23 _ rfl (hM.get 2 rfl) Tryd.underlying23 rfl (szSm _ _ _) ⟨rfl, hM⟩)
    · exact fun wx hM => gw rfl (g_call 13 _ _ [.agg (smc (o) (d) (b)).toArray, .agg (smc (p) (e) (c)).toArray] (kf13 _ _) rfl ((within_any (o) (d) (b) (p) (e) (c) wx io.out ib.out ip.out ic.out false hW).mono (fun _ _ ⟨h1_, h2_⟩ => ⟨_, h1_, rfl, hM.call h2_⟩)))
    · exact fun wx hM => gw rfl (g_load_all 23 _ (w.heap.size) (smc (o) (d) (b)) 23 _ rfl (hM.get 3 rfl) Tryd.underlying23 rfl (szSm _ _ _) ⟨rfl, hM⟩)
    · exact fun wx hM => gw rfl (g_load_all 23 _ (w2.heap.size) (smc (p) (e) (c)) 23 _ rfl (hM.get 2 rfl) Tryd.underlying23 rfl (szSm _ _ _) ⟨rfl, hM⟩)
    · exact fun wx hM => gw rfl (g_call 14 _ _ [.agg (smc (o) (d) (b)).toArray, .agg (smc (p) (e) (c)).toArray] (kf14 _ _) rfl ((Wd.vwith_any (o) (d) (b) (p) (e) (c) wx io.out ib.out ip.out ic.out false hW).mono (fun _ _ ⟨h1_, h2_⟩ => ⟨_, h1_, rfl, hM.call h2_⟩)))
    · exact fun wx hM => gw rfl (g_beq _ _ false false true rfl rfl (rfl) ⟨rfl, hM⟩)
    · exact ptL rfl rfl rfl
    · exact asL rfl rfl
  · simp only [fullL, Act.put, st_a, st_s, st_0]
    intro w16 hM
    refine κ15 _ _ (wp_ret ?_)
    go_ret
    exact ⟨rfl, hM.below⟩
theorem walk (t1 t2 t3 t4 r o d b p e c : Int) (w : World) (hT : Tabs w) (b_0 : -9223372036854775808 ≤ t1 ∧ t1 < 9223372036854775808) (b_1 : -9223372036854775808 ≤ t2 ∧ t2 < 9223372036854775808) (b_2 : -9223372036854775808 ≤ t3 ∧ t3 < 9223372036854775808) (b_3 : -9223372036854775808 ≤ t4 ∧ t4 < 9223372036854775808) (b_4 : -9223372036854775808 ≤ r ∧ r < 9223372036854775808) (b_5 : -9223372036854775808 ≤ o ∧ o < 9223372036854775808) (b_6 : -9223372036854775808 ≤ d ∧ d < 9223372036854775808) (b_7 : -9223372036854775808 ≤ b ∧ b < 9223372036854775808) (b_8 : -9223372036854775808 ≤ p ∧ p < 9223372036854775808) (b_9 : -9223372036854775808 ≤ e ∧ e < 9223372036854775808) (b_10 : -9223372036854775808 ≤ c ∧ c < 9223372036854775808) : Calls Tryd.prog 3 #[.int .i64 t1, .int .i64 t2, .int .i64 t3, .int .i64 t4, .int .i64 r, .agg (smc o d b).toArray, .agg (smc p e c).toArray] w fun e w' => e = .returned (.bool true) ∧ Below w.heap.size w w' := by
  obtain ⟨⟨⟨O, D, B⟩, E⟩, hv⟩ : ∃ v, vrd t1 t2 t3 t4 r = v := ⟨_, rfl⟩
  cases hW : wth o b p c
  · exact walk_f t1 t2 t3 t4 r o d b p e c w hT ⟨⟨by omega, by omega⟩⟩ ⟨⟨by omega, by omega⟩⟩ ⟨⟨by omega, by omega⟩⟩ ⟨⟨by omega, by omega⟩⟩ ⟨⟨by omega, by omega⟩⟩ ⟨⟨by omega, by omega⟩⟩ ⟨⟨by omega, by omega⟩⟩ ⟨⟨by omega, by omega⟩⟩ O D B E ⟨hv⟩ ⟨hW⟩
  · exact walk_t t1 t2 t3 t4 r o d b p e c w hT ⟨⟨by omega, by omega⟩⟩ ⟨⟨by omega, by omega⟩⟩ ⟨⟨by omega, by omega⟩⟩ ⟨⟨by omega, by omega⟩⟩ ⟨⟨by omega, by omega⟩⟩ ⟨⟨by omega, by omega⟩⟩ ⟨⟨by omega, by omega⟩⟩ ⟨⟨by omega, by omega⟩⟩ O D B E ⟨hv⟩ ⟨hW⟩
end Go.Proofs.YtpenicjlpiechaaDoor.volleyRounds
