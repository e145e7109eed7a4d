/- VolleyWide: the walk. -/
import Derived.Test.YtpenicjlpiechaaDoorVoLw
import Derived.WalkKit
import Derived.WalkSpells
import Derived.WalkLawsBesides
namespace Go.Proofs.YtpenicjlpiechaaDoor.volleyWide
set_option maxRecDepth 10000
open Go Go.RowKit
set_option linter.unusedVariables false
set_option linter.unusedSimpArgs false

set_option maxHeartbeats 8000000 in
theorem walk_0 (t1 t2 x y : Int) (w : World) (hT : Tabs w) (P Q X Y O D B : Int) (e1 : Shut (t1.tmod 288230376151711744 = P)) (e2 : Shut (t2.tmod 288230376151711744 = Q)) (e3 : Shut (x.tmod 1099511627776 = X)) (e4 : Shut (y.tmod 1099511627776 = Y)) (c3 : Shut (IntKind.i64.wrap X = X)) (c4 : Shut (IntKind.i64.wrap Y = Y)) (s1 : Shut (IntKind.i64.wrap (P + X) = P + X)) (s2 : Shut (IntKind.i64.wrap (2 * Y) = 2 * Y)) (s3 : Shut (IntKind.i64.wrap (P + X + 2 * Y) = P + X + 2 * Y)) (s4 : Shut (IntKind.i64.wrap (D + 2 * Y) = D + 2 * Y)) (s5 : Shut (IntKind.i64.wrap (B + Y) = B + Y)) (s6 : Shut (IntKind.i64.wrap (O - Y) = O - Y)) (iP : Shut (Wd.In64 P)) (iQ : Shut (Wd.In64 Q)) (iS : Shut (Wd.In64 (P + X))) (iT : Shut (Wd.In64 (P + X + 2 * Y))) (h1 : Shut (vrd P Q Q (P + X) 0 = ((O, D, B), 0))) (h2 : Shut (vrd P Q Q (P + X + 2 * Y) 0 = ((O - Y, D + 2 * Y, B + Y), 0))) : Calls Tryd.prog 8 #[.int .i64 t1, .int .i64 t2, .int .u64 x, .int .u64 y] w fun e w' => e = .returned (.bool true) ∧ Below w.heap.size w w' := by
  have hM := Ms.refl w
  go_enter Tryd.func8, Tryd.ntmps8
  refine wp_seq_k fun _ κ1 => wl_region (wl_fare kn ?_)
  simp (disch := omega) only [fx, pv, kx]
  refine wl_nil (κ1 _ _ ?_)
  refine wp_seq_k fun _ κ2 => wp_seq_k fun _ κ3 => wl_region (wl_give rfl (g_cM hM (kf10 _ _) (awake_any w (hM.tabs hT)) rfl ?_))
  intro w4 hM
  refine wl_fare kn ?_
  simp (disch := omega) only [fx, pv, kx]
  refine wl_nil (κ3 _ _ ?_)
  refine wp_cond_false rfl (wp_skip ?_)
  refine κ2 _ _ (wp_seq_k fun _ κ5 => ?_)
  refine wl_region (wl_fare kn ?_)
  simp (disch := omega) only [fx, pv, kx]
  refine wl_nil (κ5 _ _ ?_)
  refine wp_seq_k fun _ κ6 => ?_
  refine wp_region_fixed (by kernel_rfl) (by kernel_rfl) [.int .i64 (t1), .int .i64 (288230376151711744), .int .i64 (P), .int .i64 (t2), .int .i64 (288230376151711744), .int .i64 (Q), .int .i64 (P), .int .i64 (Q)] (by rfl) (fun wx => Ms w wx []) hM.drew ?_ ?_
  · simp only [fullL, Act.put, st_a, st_s, st_0]
    refine ⟨?_, ?_, ?_, ?_, ?_, ?_, ?_, ?_, trivial⟩
    · exact mvL rfl rfl
    · exact mvL rfl rfl
    · exact fun wx hM => gw rfl (g_irem 2 _ _ .i64 (t1) (288230376151711744) (P) rfl rfl (by decide) e1.out ⟨rfl, hM⟩)
    · exact mvL rfl rfl
    · exact mvL rfl rfl
    · exact fun wx hM => gw rfl (g_irem 2 _ _ .i64 (t2) (288230376151711744) (Q) rfl rfl (by decide) e2.out ⟨rfl, hM⟩)
    · exact asL rfl rfl
    · exact asL rfl rfl
  · simp only [fullL, Act.put, st_a, st_s, st_0]
    intro w7 hM
    refine κ6 _ _ (wp_seq_k fun _ κ8 => ?_)
    refine wl_region (wl_fare kn ?_)
    simp (disch := omega) only [fx, pv, kx]
    refine wl_give rfl (g_irem 34 _ _ .u64 (x) (1099511627776) (X) rfl rfl (by decide) e3.out ?_)
    try simp only [nz]
    refine wl_give rfl (g_cvU2 _ (X) (X) rfl (c3.out) ?_)
    refine wl_fare kn ?_
    simp (disch := omega) only [fx, pv, kx]
    refine wl_give rfl (g_irem 34 _ _ .u64 (y) (1099511627776) (Y) rfl rfl (by decide) e4.out ?_)
    try simp only [nz]
    refine wl_give rfl (g_cvU2 _ (Y) (Y) rfl (c4.out) ?_)
    refine wl_fare kn ?_
    simp (config := { maxSteps := 10000000 }) (disch := omega) only [fx, pv, kx]
    refine wl_nil (κ8 _ _ ?_)
    refine wp_seq_k fun _ κ9 => wl_region (wl_fare kn ?_)
    simp (config := { maxSteps := 10000000 }) (disch := omega) only [fx, pv, kx, (s1.out : IntKind.i64.wrap ((P) + (X)) = P + X)]
    refine wl_give rfl (g_cM hM (kf11 _ _) (round_any (P) (Q) (Q) (P + X) (0) w7 (iP.out) (iQ.out) (iQ.out) (iS.out) (O) (D) (B) (0) h1) rfl fun w10 hM => wl_fare kn ?_)
    simp (config := { maxSteps := 10000000 }) (disch := omega) only [fx, pv, kx]
    refine wl_give rfl (g_alloc 23 (smc (0) (0) (0)) zeroSm fun w11 t_ b_ => ?_)
    replace hM := hM.new t_ b_
    clear t_ b_
    try simp only [nz]
    refine wl_give rfl (g_store_all 23 _ _ (w10.heap.size) (smc (O) (D) (B)) _ 23 rfl rfl (hM.get 0 rfl) (szSm _ _ _) (rfl) (one_smc _ _ _) fun w12 t_ b_ => ?_)
    replace hM : Ms w w12 [blk (w10.heap.size) (smc (O) (D) (B)) 23] := hM.put 0 rfl t_ b_
    clear t_ b_
    refine wl_fare kn ?_
    simp (disch := omega) only [fx, pv, kx]
    refine wl_nil (κ9 _ _ ?_)
    refine wp_seq_k fun _ κ13 => wl_region (wl_fare kn ?_)
    simp (config := { maxSteps := 10000000 }) (disch := omega) only [fx, pv, kx, (s1.out : IntKind.i64.wrap ((P) + (X)) = P + X)]
    refine wl_give rfl (g_imul 2 _ _ .i64 (2) (Y) (2 * Y) rfl rfl s2.out ?_)
    refine wl_fare kn ?_
    simp (disch := omega) only [fx, pv, kx, (s3.out : IntKind.i64.wrap ((P + X) + (2 * Y)) = P + X + 2 * Y)]
    refine wl_give rfl (g_cM hM (kf11 _ _) (round_any (P) (Q) (Q) (P + X + 2 * Y) (0) w12 (iP.out) (iQ.out) (iQ.out) (iT.out) (O - Y) (D + 2 * Y) (B + Y) (0) h2) rfl fun w14 hM => wl_fare kn ?_)
    simp (config := { maxSteps := 10000000 }) (disch := omega) only [fx, pv, kx]
    refine wl_give rfl (g_alloc 23 (smc (0) (0) (0)) zeroSm fun w15 t_ b_ => ?_)
    replace hM := hM.new t_ b_
    clear t_ b_
    try simp only [nz]
    refine wl_give rfl (g_store_all 23 _ _ (w14.heap.size) (smc (O - Y) (D + 2 * Y) (B + Y)) _ 23 rfl rfl (hM.get 0 rfl) (szSm _ _ _) (rfl) (one_smc _ _ _) fun w16 t_ b_ => ?_)
    replace hM : Ms w w16 [blk (w14.heap.size) (smc (O - Y) (D + 2 * Y) (B + Y)) 23, blk (w10.heap.size) (smc (O) (D) (B)) 23] := hM.put 0 rfl t_ b_
    clear t_ b_
    refine wl_fare kn ?_
    simp (disch := omega) only [fx, pv, kx]
    refine wl_nil (κ13 _ _ ?_)
    refine wp_seq_k fun _ κ17 => ?_
    (try simp only [List.append_eq, List.cons_append, List.nil_append])
    refine wl_text (C := fun wx => Ms w wx [blk (w14.heap.size) (smc (O - Y) (D + 2 * Y) (B + Y)) 23, blk (w10.heap.size) (smc (O) (D) (B)) 23]) (by kernel_rfl) [.int .i64 (0), .bool true, .bool true, .int .i64 (0), .bool true, .bool true, .bool true, .pointer (some ⟨w14.heap.size, 1, none⟩), .int .i64 (D + 2 * Y), .pointer (some ⟨w10.heap.size, 1, none⟩), .int .i64 (D), .int .i64 (Y), .int .i64 (2 * Y), .int .i64 (D + 2 * Y), .bool true, .bool true, .bool true, .pointer (some ⟨w14.heap.size, 2, none⟩), .int .i64 (B + Y), .pointer (some ⟨w10.heap.size, 2, none⟩), .int .i64 (B), .int .i64 (Y), .int .i64 (B + Y), .bool true, .bool true, .bool true, .pointer (some ⟨w14.heap.size, 0, none⟩), .int .i64 (O - Y), .pointer (some ⟨w10.heap.size, 0, none⟩), .int .i64 (O), .int .i64 (Y), .int .i64 (O - Y), .bool true, .bool true, .bool true] (by rfl) hM (by simp only [fullL, Act.put, st_a, st_s, st_0]; exact ⟨mvL rfl rfl, fun _ hM => gw rfl (g_ieq 25 _ _ .i64 (0) (0) true rfl rfl (by decide) ⟨rfl, hM⟩), mvL rfl rfl, mvL rfl rfl, fun _ hM => gw rfl (g_ieq 25 _ _ .i64 (0) (0) true rfl rfl (by decide) ⟨rfl, hM⟩), ptL rfl rfl rfl, mvL rfl rfl, faL rfl rfl (fun _ => faSm1 _ _ _), fun _ hM => gw rfl (g_ld1 2 _ (w14.heap.size) (1) _ rfl (ld2 _ _ _ _ ((hM.get 0 rfl).cell (1) _ (rfl))) ⟨rfl, hM⟩), faL rfl rfl (fun _ => faSm1 _ _ _), fun _ hM => gw rfl (g_ld1 2 _ (w10.heap.size) (1) _ rfl (ld2 _ _ _ _ ((hM.get 1 rfl).cell (1) _ (rfl))) ⟨rfl, hM⟩), mvL rfl rfl, fun _ hM => gw rfl (g_imul 2 _ _ .i64 (2) (Y) (2 * Y) rfl rfl s2.out ⟨rfl, hM⟩), fun _ hM => gw rfl (g_ia 2 _ _ .i64 (D) (2 * Y) (D + 2 * Y) rfl rfl s4.out ⟨rfl, hM⟩), fun _ hM => gw rfl (g_ieq 2 _ _ .i64 (D + 2 * Y) (D + 2 * Y) true rfl rfl (decide_eq_true rfl) ⟨rfl, hM⟩), ptL rfl rfl rfl, mvL rfl rfl, faL rfl rfl (fun _ => faSm2 _ _ _), fun _ hM => gw rfl (g_ld1 2 _ (w14.heap.size) (2) _ rfl (ld2 _ _ _ _ ((hM.get 0 rfl).cell (2) _ (rfl))) ⟨rfl, hM⟩), faL rfl rfl (fun _ => faSm2 _ _ _), fun _ hM => gw rfl (g_ld1 2 _ (w10.heap.size) (2) _ rfl (ld2 _ _ _ _ ((hM.get 1 rfl).cell (2) _ (rfl))) ⟨rfl, hM⟩), mvL rfl rfl, fun _ hM => gw rfl (g_ia 2 _ _ .i64 (B) (Y) (B + Y) rfl rfl s5.out ⟨rfl, hM⟩), fun _ hM => gw rfl (g_ieq 2 _ _ .i64 (B + Y) (B + Y) true rfl rfl (decide_eq_true rfl) ⟨rfl, hM⟩), ptL rfl rfl rfl, mvL rfl rfl, faL rfl rfl (fun _ => faSm0 _ _ _), fun _ hM => gw rfl (g_ld1 2 _ (w14.heap.size) (0) _ rfl (ld2 _ _ _ _ ((hM.get 0 rfl).cell (0) _ (rfl))) ⟨rfl, hM⟩), faL rfl rfl (fun _ => faSm0 _ _ _), fun _ hM => gw rfl (g_ld1 2 _ (w10.heap.size) (0) _ rfl (ld2 _ _ _ _ ((hM.get 1 rfl).cell (0) _ (rfl))) ⟨rfl, hM⟩), mvL rfl rfl, fun _ hM => gw rfl (g_isub 2 _ _ .i64 (O) (Y) (O - Y) rfl rfl s6.out ⟨rfl, hM⟩), fun _ hM => gw rfl (g_ieq 2 _ _ .i64 (O - Y) (O - Y) true rfl rfl (decide_eq_true rfl) ⟨rfl, hM⟩), ptL rfl rfl rfl, asL rfl rfl, trivial⟩) ?_
    simp only [fullL, Act.put, st_a, st_s, st_0]
    intro w18 hM
    refine κ17 _ _ (wp_ret ?_)
    go_ret
    exact ⟨rfl, hM.below⟩
theorem tnn (n m : Int) (h : 0 < m) (h0 : 0 ≤ n) : 0 ≤ n.tmod m ∧ n.tmod m < m := tmod_nn n m h h0
set_option maxHeartbeats 8000000 in
theorem walk (t1 t2 x y : Int) (w : World) (hT : Tabs w) (b1 : -9223372036854775808 ≤ t1 ∧ t1 < 9223372036854775808) (b2 : -9223372036854775808 ≤ t2 ∧ t2 < 9223372036854775808) (b3 : 0 ≤ x ∧ x < 18446744073709551616) (b4 : 0 ≤ y ∧ y < 18446744073709551616) : Calls Tryd.prog 8 #[.int .i64 t1, .int .i64 t2, .int .u64 x, .int .u64 y] w fun e w' => e = .returned (.bool true) ∧ Below w.heap.size w w' := by
  have g1 := tmod_lt t1 288230376151711744 (by decide)
  have g2 := tmod_lt t2 288230376151711744 (by decide)
  have g3 := tmod_nn x 1099511627776 (by decide) b3.1
  have g4 := tmod_nn y 1099511627776 (by decide) b4.1
  obtain ⟨P, e1⟩ : ∃ P, t1.tmod 288230376151711744 = P := ⟨_, rfl⟩
  obtain ⟨Q, e2⟩ : ∃ Q, t2.tmod 288230376151711744 = Q := ⟨_, rfl⟩
  obtain ⟨X, e3⟩ : ∃ X, x.tmod 1099511627776 = X := ⟨_, rfl⟩
  obtain ⟨Y, e4⟩ : ∃ Y, y.tmod 1099511627776 = Y := ⟨_, rfl⟩
  rw [e1] at g1
  rw [e2] at g2
  rw [e3] at g3
  rw [e4] at g4
  obtain ⟨O, hO⟩ : ∃ O, (Q - P + (Q - (P + X))) / 2 = O := ⟨_, rfl⟩
  obtain ⟨B, hB⟩ : ∃ B, (X + 1) / 2 + 2 = B := ⟨_, rfl⟩
  have v1 : vrd P Q Q (P + X) 0 = ((O, X, B), 0) := by
    unfold vrd rOk In64
    rw [if_neg (by omega), if_neg (by omega), if_neg (by omega)]
    rw [hO, show P + X - P - (Q - Q) = X by omega, show (X + 1) / 2 + ((P + X - P) * (2 * 0) + 999999999) / 1000000000 + 2 = B by rw [Int.mul_zero, Int.mul_zero]; omega]
  have v2 : vrd P Q Q (P + X + 2 * Y) 0 = ((O - Y, X + 2 * Y, B + Y), 0) := by
    unfold vrd rOk In64
    rw [if_neg (by omega), if_neg (by omega), if_neg (by omega)]
    rw [show (Q - P + (Q - (P + X + 2 * Y))) / 2 = O - Y by omega, show P + X + 2 * Y - P - (Q - Q) = X + 2 * Y by omega, show (X + 2 * Y + 1) / 2 + ((P + X + 2 * Y - P) * (2 * 0) + 999999999) / 1000000000 + 2 = B + Y by rw [Int.mul_zero, Int.mul_zero]; omega]
  exact walk_0 t1 t2 x y w hT P Q X Y O X B ⟨e1⟩ ⟨e2⟩ ⟨e3⟩ ⟨e4⟩ ⟨wrap_id _ (by omega) (by omega)⟩ ⟨wrap_id _ (by omega) (by omega)⟩ ⟨wrap_id _ (by omega) (by omega)⟩ ⟨wrap_id _ (by omega) (by omega)⟩ ⟨wrap_id _ (by omega) (by omega)⟩ ⟨wrap_id _ (by omega) (by omega)⟩ ⟨wrap_id _ (by omega) (by omega)⟩ ⟨wrap_id _ (by omega) (by omega)⟩ ⟨⟨by omega, by omega⟩⟩ ⟨⟨by omega, by omega⟩⟩ ⟨⟨by omega, by omega⟩⟩ ⟨⟨by omega, by omega⟩⟩ ⟨v1⟩ ⟨v2⟩
end Go.Proofs.YtpenicjlpiechaaDoor.volleyWide
