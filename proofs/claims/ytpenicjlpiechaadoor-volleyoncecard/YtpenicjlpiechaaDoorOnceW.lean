/- VolleyOnce: the walk. -/
import Derived.Test.YtpenicjlpiechaaDoorVoLw
import Derived.WalkKit
import Derived.WalkSpells
import Derived.WalkLawsBesides
namespace Go.Proofs.YtpenicjlpiechaaDoor.volleyOnce
set_option maxRecDepth 10000
open Go Go.RowKit
set_option linter.unusedVariables false
set_option linter.unusedSimpArgs false

theorem g_strB {a : Act} {w : World} {dst : Option Tmp} {ty : TypeId} {pos : String} {aft : Array Edge} {gd : Option (Nat × Bool)} {K : Value → World → Prop} (x : Operand) (b : Nat) (s : ByteArray) (hs : s.size = 16) (t : TypeId) (hx : a.eval x = .slice (some ⟨b, 0, none⟩) 16 16) (hb : Blk w b (bc s.data.toList) t) (hk : K (.string s) w) : gives Tryd.prog ⟨dst, .convert 48 9 x, ty, pos, aft, gd⟩ a w K :=
  g_strA x b s.data.toList hs t hx hb hk
set_option maxHeartbeats 8000000 in
theorem walk_1 (k A B : ByteArray) (n t2 t3 : Int) (w : World) (hT : Tabs w) (hA : A.size = 16) (hB : B.size = 16) (h1 : ((k.size : Nat) : Int) < 1) : Calls Tryd.prog 5 #[.string k, .agg (bc A.data.toList).toArray, .agg (bc B.data.toList).toArray, .int .i64 n, .int .i64 t2, .int .i64 t3] w fun e w' => e = .returned (.bool true) ∧ Below w.heap.size w w' := by
  have hM := Ms.refl w
  go_enter Tryd.func5, Tryd.ntmps5
  refine wp_seq_k fun _ κ1 => wl_region (wl_give rfl (g_box 42 _ (bc (A.data.toList)) rfl ?_))
  intro w2 t_ b_
  replace hM := hM.new t_ b_
  clear t_ b_
  try simp only [nz]
  refine wl_give rfl (g_box 42 _ (bc (B.data.toList)) rfl fun w3 t_ b_ => ?_)
  replace hM := hM.new t_ b_
  clear t_ b_
  refine wl_fare kn ?_
  simp (disch := omega) only [fx, pv, kx]
  refine wl_nil (κ1 _ _ ?_)
  refine wp_seq_k fun _ κ4 => wp_seq_k fun _ κ5 => wl_region (wl_give rfl (g_cM hM (kf10 _ _) (awake_any w3 (hM.tabs hT)) rfl ?_))
  intro w6 hM
  refine wl_fare kn ?_
  simp (disch := omega) only [fx, pv, kx]
  refine wl_nil (κ5 _ _ ?_)
  refine wp_cond_false rfl (wp_skip ?_)
  refine κ4 _ _ (wp_seq_k fun _ κ7 => ?_)
  refine wp_seq_k fun _ κ8 => wl_region (wl_fare kn ?_)
  simp (disch := omega) only [fx, pv, kx]
  refine wl_give rfl (g_lenT _ (k) (((k.size : Nat) : Int)) rfl (rfl) ?_)
  refine wl_fare kn ?_
  simp (config := { maxSteps := 10000000 }) (disch := omega) only [fx, pv, kx]
  refine wl_nil (κ8 _ _ ?_)
  refine wp_cond_true rfl (wp_seq_k fun _ κ9 => ?_)
  refine wl_region (wl_fare kn ?_)
  simp (disch := omega) only [fx, pv, kx]
  refine wl_nil (κ9 _ _ ?_)
  refine wp_ret ?_
  go_ret
  exact ⟨rfl, hM.below⟩
set_option maxHeartbeats 8000000 in
theorem walk_2 (k A B : ByteArray) (n t2 t3 : Int) (w : World) (hT : Tabs w) (hA : A.size = 16) (hB : B.size = 16) (h1 : ¬ ((k.size : Nat) : Int) < 1) (h2 : 100 < ((k.size : Nat) : Int)) : Calls Tryd.prog 5 #[.string k, .agg (bc A.data.toList).toArray, .agg (bc B.data.toList).toArray, .int .i64 n, .int .i64 t2, .int .i64 t3] w fun e w' => e = .returned (.bool true) ∧ Below w.heap.size w w' := by
  have hM := Ms.refl w
  go_enter Tryd.func5, Tryd.ntmps5
  refine wp_seq_k fun _ κ1 => wl_region (wl_give rfl (g_box 42 _ (bc (A.data.toList)) rfl ?_))
  intro w2 t_ b_
  replace hM := hM.new t_ b_
  clear t_ b_
  try simp only [nz]
  refine wl_give rfl (g_box 42 _ (bc (B.data.toList)) rfl fun w3 t_ b_ => ?_)
  replace hM := hM.new t_ b_
  clear t_ b_
  refine wl_fare kn ?_
  simp (disch := omega) only [fx, pv, kx]
  refine wl_nil (κ1 _ _ ?_)
  refine wp_seq_k fun _ κ4 => wp_seq_k fun _ κ5 => wl_region (wl_give rfl (g_cM hM (kf10 _ _) (awake_any w3 (hM.tabs hT)) rfl ?_))
  intro w6 hM
  refine wl_fare kn ?_
  simp (disch := omega) only [fx, pv, kx]
  refine wl_nil (κ5 _ _ ?_)
  refine wp_cond_false rfl (wp_skip ?_)
  refine κ4 _ _ (wp_seq_k fun _ κ7 => ?_)
  refine wp_seq_k fun _ κ8 => wl_region (wl_fare kn ?_)
  simp (disch := omega) only [fx, pv, kx]
  refine wl_give rfl (g_lenT _ (k) (((k.size : Nat) : Int)) rfl (rfl) ?_)
  refine wl_fare kn ?_
  simp (config := { maxSteps := 10000000 }) (disch := omega) only [fx, pv, kx]
  refine wl_give rfl (g_lenT _ (k) (((k.size : Nat) : Int)) rfl (rfl) ?_)
  refine wl_fare kn ?_
  simp (config := { maxSteps := 10000000 }) (disch := omega) only [fx, pv, kx]
  refine wl_nil (κ8 _ _ ?_)
  refine wp_cond_true rfl (wp_seq_k fun _ κ9 => ?_)
  refine wl_region (wl_fare kn ?_)
  simp (disch := omega) only [fx, pv, kx]
  refine wl_nil (κ9 _ _ ?_)
  refine wp_ret ?_
  go_ret
  exact ⟨rfl, hM.below⟩
set_option maxHeartbeats 8000000 in
theorem walk_3 (k A B : ByteArray) (n t2 t3 : Int) (w : World) (hT : Tabs w) (hA : A.size = 16) (hB : B.size = 16) (h1 : ¬ ((k.size : Nat) : Int) < 1) (h2 : ¬ 100 < ((k.size : Nat) : Int)) (h3 : A.data.toList = B.data.toList) : Calls Tryd.prog 5 #[.string k, .agg (bc A.data.toList).toArray, .agg (bc B.data.toList).toArray, .int .i64 n, .int .i64 t2, .int .i64 t3] w fun e w' => e = .returned (.bool true) ∧ Below w.heap.size w w' := by
  have hM := Ms.refl w
  go_enter Tryd.func5, Tryd.ntmps5
  refine wp_seq_k fun _ κ1 => wl_region (wl_give rfl (g_box 42 _ (bc (A.data.toList)) rfl ?_))
  intro w2 t_ b_
  replace hM := hM.new t_ b_
  clear t_ b_
  try simp only [nz]
  refine wl_give rfl (g_box 42 _ (bc (B.data.toList)) rfl fun w3 t_ b_ => ?_)
  replace hM := hM.new t_ b_
  clear t_ b_
  refine wl_fare kn ?_
  simp (disch := omega) only [fx, pv, kx]
  refine wl_nil (κ1 _ _ ?_)
  refine wp_seq_k fun _ κ4 => wp_seq_k fun _ κ5 => wl_region (wl_give rfl (g_cM hM (kf10 _ _) (awake_any w3 (hM.tabs hT)) rfl ?_))
  intro w6 hM
  refine wl_fare kn ?_
  simp (disch := omega) only [fx, pv, kx]
  refine wl_nil (κ5 _ _ ?_)
  refine wp_cond_false rfl (wp_skip ?_)
  refine κ4 _ _ (wp_seq_k fun _ κ7 => ?_)
  refine wp_seq_k fun _ κ8 => wl_region (wl_fare kn ?_)
  simp (disch := omega) only [fx, pv, kx]
  refine wl_give rfl (g_lenT _ (k) (((k.size : Nat) : Int)) rfl (rfl) ?_)
  refine wl_fare kn ?_
  simp (config := { maxSteps := 10000000 }) (disch := omega) only [fx, pv, kx]
  refine wl_give rfl (g_lenT _ (k) (((k.size : Nat) : Int)) rfl (rfl) ?_)
  refine wl_fare kn ?_
  simp (config := { maxSteps := 10000000 }) (disch := omega) only [fx, pv, kx]
  refine wl_give rfl (g_load_all 42 _ (w.heap.size) (bc A.data.toList) 42 _ rfl ((hM.get 1 rfl)) Tryd.underlying42 rfl (szB16 _ hA) ?_)
  try simp only [nz]
  refine wl_give rfl (g_load_all 42 _ (w2.heap.size) (bc B.data.toList) 42 _ rfl ((hM.get 0 rfl)) Tryd.underlying42 rfl (szB16 _ hB) ?_)
  try simp only [nz]
  refine wl_give rfl (g_eqlA _ _ A.data.toList B.data.toList hA hB true rfl rfl (decide_eq_true h3) ?_)
  refine wl_fare kn ?_
  simp (disch := omega) only [fx, pv, kx]
  refine wl_nil (κ8 _ _ ?_)
  refine wp_cond_true rfl (wp_seq_k fun _ κ9 => ?_)
  refine wl_region (wl_fare kn ?_)
  simp (disch := omega) only [fx, pv, kx]
  refine wl_nil (κ9 _ _ ?_)
  refine wp_ret ?_
  go_ret
  exact ⟨rfl, hM.below⟩
set_option maxHeartbeats 8000000 in
theorem walk_10 (k A B : ByteArray) (n t2 t3 : Int) (w : World) (hT : Tabs w) (hA : A.size = 16) (hB : B.size = 16) (h1 : ¬ ((k.size : Nat) : Int) < 1) (h2 : ¬ 100 < ((k.size : Nat) : Int)) (h3 : ¬ A.data.toList = B.data.toList) (hk : k ≠ ⟨#[]⟩) (d1 : dw A hA ∉ ([] : List Dw)) (d2 : dw B hB ∉ [dw A hA]) (d3 : dw A hA ∈ [dw A hA, dw B hB]) (X Y P Q : ByteArray) (hX : Shut (A ++ mb n = X)) (hY : Shut (B ++ mb n = Y)) (sX : Shut (X.size = 24)) (sY : Shut (Y.size = 24)) (hP : Shut (anw k X t2 t3 = P)) (hQ : Shut (anw k Y t2 t3 = Q)) (hn : Wd.In64 n) (u1 : Shut (tk ⟨k, 0, [dw A hA, dw B hB], Y⟩ P n = (((0, 0, 0), 2), ⟨k, 0, [dw A hA, dw B hB], Y⟩))) (O D E : Int) (u2 : Shut (tk ⟨k, 0, [dw A hA, dw B hB], Y⟩ Q n = (((O, D, E), 0), ⟨k, 0, [dw A hA, dw B hB], ⟨#[]⟩⟩))) (u3 : Shut (tk ⟨k, 0, [dw A hA, dw B hB], ⟨#[]⟩⟩ Q n = (((0, 0, 0), 10), ⟨k, 0, [dw A hA, dw B hB], ⟨#[]⟩⟩))) : Calls Tryd.prog 5 #[.string k, .agg (bc A.data.toList).toArray, .agg (bc B.data.toList).toArray, .int .i64 n, .int .i64 t2, .int .i64 t3] w fun e w' => e = .returned (.bool true) ∧ Below w.heap.size w w' := by
  have hM := Ms.refl w
  go_enter Tryd.func5, Tryd.ntmps5
  refine wp_seq_k fun _ κ1 => wl_region (wl_give rfl (g_box 42 _ (bc (A.data.toList)) rfl ?_))
  intro w2 t_ b_
  replace hM := hM.new t_ b_
  clear t_ b_
  try simp only [nz]
  refine wl_give rfl (g_box 42 _ (bc (B.data.toList)) rfl fun w3 t_ b_ => ?_)
  replace hM := hM.new t_ b_
  clear t_ b_
  refine wl_fare kn ?_
  simp (disch := omega) only [fx, pv, kx]
  refine wl_nil (κ1 _ _ ?_)
  refine wp_seq_k fun _ κ4 => wp_seq_k fun _ κ5 => wl_region (wl_give rfl (g_cM hM (kf10 _ _) (awake_any w3 (hM.tabs hT)) rfl ?_))
  intro w6 hM
  refine wl_fare kn ?_
  simp (disch := omega) only [fx, pv, kx]
  refine wl_nil (κ5 _ _ ?_)
  refine wp_cond_false rfl (wp_skip ?_)
  refine κ4 _ _ (wp_seq_k fun _ κ7 => ?_)
  refine wp_seq_k fun _ κ8 => wl_region (wl_fare kn ?_)
  simp (disch := omega) only [fx, pv, kx]
  refine wl_give rfl (g_lenT _ (k) (((k.size : Nat) : Int)) rfl (rfl) ?_)
  refine wl_fare kn ?_
  simp (config := { maxSteps := 10000000 }) (disch := omega) only [fx, pv, kx]
  refine wl_give rfl (g_lenT _ (k) (((k.size : Nat) : Int)) rfl (rfl) ?_)
  refine wl_fare kn ?_
  simp (config := { maxSteps := 10000000 }) (disch := omega) only [fx, pv, kx]
  refine wl_give rfl (g_load_all 42 _ (w.heap.size) (bc A.data.toList) 42 _ rfl ((hM.get 1 rfl)) Tryd.underlying42 rfl (szB16 _ hA) ?_)
  try simp only [nz]
  refine wl_give rfl (g_load_all 42 _ (w2.heap.size) (bc B.data.toList) 42 _ rfl ((hM.get 0 rfl)) Tryd.underlying42 rfl (szB16 _ hB) ?_)
  try simp only [nz]
  refine wl_give rfl (g_eqlA _ _ A.data.toList B.data.toList hA hB false rfl rfl (decide_eq_false h3) ?_)
  refine wl_fare kn ?_
  simp (disch := omega) only [fx, pv, kx]
  refine wl_nil (κ8 _ _ ?_)
  refine wp_cond_false rfl (wp_skip ?_)
  refine κ7 _ _ (wp_seq_k fun _ κ9 => ?_)
  refine wl_region (wl_fare kn ?_)
  simp (disch := omega) only [fx, pv, kx]
  refine wl_give rfl (g_call 17 _ _ [.string (k), .int .i64 (0)] (kf17 _ _) rfl ((newv_e (k) (0) hk (by decide) (⟨k, 0, [], ⟨#[]⟩⟩) rfl hM).mono ?_))
  rintro e w10 ⟨p11, rfl, h_⟩
  refine ⟨_, rfl, ?_⟩
  replace hM : Ms w w10 [vo p11 (⟨k, 0, [], ⟨#[]⟩⟩), blk (w2.heap.size) (bc (B.data.toList)) 42, blk (w.heap.size) (bc (A.data.toList)) 42] := h_
  clear h_
  refine wl_fare kn ?_
  simp (config := { maxSteps := 10000000 }) (disch := omega) only [fx, pv, kx]
  refine wl_nil (κ9 _ _ ?_)
  refine wp_seq_k fun _ κ12 => wp_seq_k fun _ κ13 => wl_region (wl_fare kn ?_)
  simp (disch := omega) only [fx, pv, kx]
  refine wl_give rfl (g_peqV _ ((some ⟨p11, 0, none⟩)) false rfl rfl ?_)
  try simp only [nz]
  refine wl_nil (κ13 _ _ ?_)
  refine wp_cond_false rfl (wp_skip ?_)
  refine κ12 _ _ (wp_seq_k fun _ κ14 => ?_)
  refine wl_region (wl_fare kn ?_)
  simp (disch := omega) only [fx, pv, kx]
  refine wl_give rfl (g_slA _ (w.heap.size) rfl ?_)
  try simp only [nz]
  refine wl_give rfl (g_strB _ (w.heap.size) A hA 42 rfl ((hM.get 2 rfl)) ?_)
  refine wl_fare kn ?_
  simp (disch := omega) only [fx, pv, kx]
  refine wl_give rfl (g_call 18 _ _ [.pointer (some ⟨p11, 0, none⟩), .string (A), .int .i64 (n)] (kf18 _ _) rfl ((ask_e A n hA d1 X hX.out ⟨k, 0, [dw A hA], X⟩ rfl hM).mono ?_))
  rintro e w15 ⟨rfl, h_⟩
  refine ⟨_, rfl, ?_⟩
  replace hM : Ms w w15 [vo p11 (⟨k, 0, [dw A hA], X⟩), blk (w2.heap.size) (bc (B.data.toList)) 42, blk (w.heap.size) (bc (A.data.toList)) 42] := h_
  clear h_
  refine wl_fare kn ?_
  simp (config := { maxSteps := 10000000 }) (disch := omega) only [fx, pv, kx]
  refine wl_nil (κ14 _ _ ?_)
  refine wp_seq_k fun _ κ16 => wl_region (wl_fare kn ?_)
  simp (disch := omega) only [fx, pv, kx]
  refine wl_give rfl (g_slA _ (w2.heap.size) rfl ?_)
  try simp only [nz]
  refine wl_give rfl (g_strB _ (w2.heap.size) B hB 42 rfl ((hM.get 1 rfl)) ?_)
  refine wl_fare kn ?_
  simp (disch := omega) only [fx, pv, kx]
  refine wl_give rfl (g_call 18 _ _ [.pointer (some ⟨p11, 0, none⟩), .string (B), .int .i64 (n)] (kf18 _ _) rfl ((ask_e B n hB d2 Y hY.out ⟨k, 0, [dw A hA, dw B hB], Y⟩ rfl hM).mono ?_))
  rintro e w17 ⟨rfl, h_⟩
  refine ⟨_, rfl, ?_⟩
  replace hM : Ms w w17 [vo p11 (⟨k, 0, [dw A hA, dw B hB], Y⟩), blk (w2.heap.size) (bc (B.data.toList)) 42, blk (w.heap.size) (bc (A.data.toList)) 42] := h_
  clear h_
  refine wl_fare kn ?_
  simp (config := { maxSteps := 10000000 }) (disch := omega) only [fx, pv, kx]
  refine wl_nil (κ16 _ _ ?_)
  refine wp_seq_k fun _ κ18 => wl_region (wl_fare kn ?_)
  simp (disch := omega) only [fx, pv, kx]
  refine wl_give rfl (g_slA _ (w.heap.size) rfl ?_)
  try simp only [nz]
  refine wl_give rfl (g_strB _ (w.heap.size) A hA 42 rfl ((hM.get 2 rfl)) ?_)
  refine wl_fare kn ?_
  simp (disch := omega) only [fx, pv, kx]
  refine wl_give rfl (g_call 18 _ _ [.pointer (some ⟨p11, 0, none⟩), .string (A), .int .i64 (n)] (kf18 _ _) rfl ((ask_t A n hA d3 hM).mono ?_))
  rintro e w19 ⟨rfl, h_⟩
  refine ⟨_, rfl, ?_⟩
  replace hM : Ms w w19 [vo p11 (⟨k, 0, [dw A hA, dw B hB], Y⟩), blk (w2.heap.size) (bc (B.data.toList)) 42, blk (w.heap.size) (bc (A.data.toList)) 42] := h_
  clear h_
  refine wl_fare kn ?_
  simp (config := { maxSteps := 10000000 }) (disch := omega) only [fx, pv, kx]
  refine wl_nil (κ18 _ _ ?_)
  refine wp_seq_k fun _ κ20 => wl_region (wl_fare kn ?_)
  simp (config := { maxSteps := 10000000 }) (disch := omega) only [fx, pv, kx]
  refine wl_give rfl (g_cM hM (kf19 _ _) (answer_e (k) (X) (t2) (t3) w19 (hM.tabs hT) (by omega) sX.out (P) hP.out) rfl fun w21 hM => wl_fare kn ?_)
  simp (config := { maxSteps := 10000000 }) (disch := omega) only [fx, pv, kx]
  refine wl_nil (κ20 _ _ ?_)
  refine wp_seq_k fun _ κ22 => wl_region (wl_fare kn ?_)
  simp (config := { maxSteps := 10000000 }) (disch := omega) only [fx, pv, kx]
  refine wl_give rfl (g_cM hM (kf19 _ _) (answer_e (k) (Y) (t2) (t3) w21 (hM.tabs hT) (by omega) sY.out (Q) hQ.out) rfl fun w23 hM => wl_fare kn ?_)
  simp (config := { maxSteps := 10000000 }) (disch := omega) only [fx, pv, kx]
  refine wl_nil (κ22 _ _ ?_)
  refine wp_seq_k fun _ κ24 => wl_region (wl_fare kn ?_)
  simp (config := { maxSteps := 10000000 }) (disch := omega) only [fx, pv, kx]
  refine wl_give rfl (g_call 20 _ _ [.pointer (some ⟨p11, 0, none⟩), .string (P), .int .i64 (n)] (kf20 _ _) rfl ((take_any2 hT P n hn (show k.size ≤ 3000 by omega) 0 0 0 2 ⟨k, 0, [dw A hA, dw B hB], Y⟩ u1.out hM).mono ?_))
  rintro e w25 ⟨rfl, h_⟩
  refine ⟨_, rfl, ?_⟩
  replace hM : Ms w w25 [vo p11 (⟨k, 0, [dw A hA, dw B hB], Y⟩), blk (w2.heap.size) (bc (B.data.toList)) 42, blk (w.heap.size) (bc (A.data.toList)) 42] := h_
  clear h_
  refine wl_fare kn ?_
  simp (config := { maxSteps := 10000000 }) (disch := omega) only [fx, pv, kx]
  refine wl_give rfl (g_alloc 23 (smc (0) (0) (0)) zeroSm fun w26 t_ b_ => ?_)
  replace hM := hM.new t_ b_
  clear t_ b_
  try simp only [nz]
  refine wl_give rfl (g_store_all 23 _ _ (w25.heap.size) (smc (0) (0) (0)) _ 23 rfl rfl (hM.get 0 rfl) (szSm _ _ _) (rfl) (one_smc _ _ _) fun w27 t_ b_ => ?_)
  replace hM : Ms w w27 [blk (w25.heap.size) (smc (0) (0) (0)) 23, vo p11 (⟨k, 0, [dw A hA, dw B hB], Y⟩), blk (w2.heap.size) (bc (B.data.toList)) 42, blk (w.heap.size) (bc (A.data.toList)) 42] := hM.put 0 rfl t_ b_
  clear t_ b_
  refine wl_fare kn ?_
  simp (disch := omega) only [fx, pv, kx]
  refine wl_nil (κ24 _ _ ?_)
  refine wp_seq_k fun _ κ28 => wl_region (wl_fare kn ?_)
  simp (config := { maxSteps := 10000000 }) (disch := omega) only [fx, pv, kx]
  refine wl_give rfl (g_call 20 _ _ [.pointer (some ⟨p11, 0, none⟩), .string (Q), .int .i64 (n)] (kf20 _ _) rfl ((take_any2 hT Q n hn (show k.size ≤ 3000 by omega) O D E 0 ⟨k, 0, [dw A hA, dw B hB], ⟨#[]⟩⟩ u2.out (show Ms w w27 [vo p11 (⟨k, 0, [dw A hA, dw B hB], Y⟩), blk (w25.heap.size) (smc (0) (0) (0)) 23, blk (w2.heap.size) (bc (B.data.toList)) 42, blk (w.heap.size) (bc (A.data.toList)) 42] from (hM.up 1 rfl))).mono ?_))
  rintro e w29 ⟨rfl, h_⟩
  refine ⟨_, rfl, ?_⟩
  replace hM : Ms w w29 [vo p11 (⟨k, 0, [dw A hA, dw B hB], ⟨#[]⟩⟩), blk (w25.heap.size) (smc (0) (0) (0)) 23, blk (w2.heap.size) (bc (B.data.toList)) 42, blk (w.heap.size) (bc (A.data.toList)) 42] := h_
  clear h_
  refine wl_fare kn ?_
  simp (config := { maxSteps := 10000000 }) (disch := omega) only [fx, pv, kx]
  refine wl_give rfl (g_alloc 23 (smc (0) (0) (0)) zeroSm fun w30 t_ b_ => ?_)
  replace hM := hM.new t_ b_
  clear t_ b_
  try simp only [nz]
  refine wl_give rfl (g_store_all 23 _ _ (w29.heap.size) (smc (O) (D) (E)) _ 23 rfl rfl (hM.get 0 rfl) (szSm _ _ _) (rfl) (one_smc _ _ _) fun w31 t_ b_ => ?_)
  replace hM : Ms w w31 [blk (w29.heap.size) (smc (O) (D) (E)) 23, vo p11 (⟨k, 0, [dw A hA, dw B hB], ⟨#[]⟩⟩), blk (w25.heap.size) (smc (0) (0) (0)) 23, blk (w2.heap.size) (bc (B.data.toList)) 42, blk (w.heap.size) (bc (A.data.toList)) 42] := hM.put 0 rfl t_ b_
  clear t_ b_
  refine wl_fare kn ?_
  simp (disch := omega) only [fx, pv, kx]
  refine wl_nil (κ28 _ _ ?_)
  refine wp_seq_k fun _ κ32 => wl_region (wl_fare kn ?_)
  simp (config := { maxSteps := 10000000 }) (disch := omega) only [fx, pv, kx]
  refine wl_give rfl (g_call 20 _ _ [.pointer (some ⟨p11, 0, none⟩), .string (Q), .int .i64 (n)] (kf20 _ _) rfl ((take_any2 hT Q n hn (show k.size ≤ 3000 by omega) 0 0 0 10 ⟨k, 0, [dw A hA, dw B hB], ⟨#[]⟩⟩ u3.out (show Ms w w31 [vo p11 (⟨k, 0, [dw A hA, dw B hB], ⟨#[]⟩⟩), blk (w29.heap.size) (smc (O) (D) (E)) 23, blk (w25.heap.size) (smc (0) (0) (0)) 23, blk (w2.heap.size) (bc (B.data.toList)) 42, blk (w.heap.size) (bc (A.data.toList)) 42] from (hM.up 1 rfl))).mono ?_))
  rintro e w33 ⟨rfl, h_⟩
  refine ⟨_, rfl, ?_⟩
  replace hM : Ms w w33 [vo p11 (⟨k, 0, [dw A hA, dw B hB], ⟨#[]⟩⟩), blk (w29.heap.size) (smc (O) (D) (E)) 23, blk (w25.heap.size) (smc (0) (0) (0)) 23, blk (w2.heap.size) (bc (B.data.toList)) 42, blk (w.heap.size) (bc (A.data.toList)) 42] := h_
  clear h_
  refine wl_fare kn ?_
  simp (config := { maxSteps := 10000000 }) (disch := omega) only [fx, pv, kx]
  refine wl_give rfl (g_alloc 23 (smc (0) (0) (0)) zeroSm fun w34 t_ b_ => ?_)
  replace hM := hM.new t_ b_
  clear t_ b_
  try simp only [nz]
  refine wl_give rfl (g_store_all 23 _ _ (w33.heap.size) (smc (0) (0) (0)) _ 23 rfl rfl (hM.get 0 rfl) (szSm _ _ _) (rfl) (one_smc _ _ _) fun w35 t_ b_ => ?_)
  replace hM : Ms w w35 [blk (w33.heap.size) (smc (0) (0) (0)) 23, vo p11 (⟨k, 0, [dw A hA, dw B hB], ⟨#[]⟩⟩), blk (w29.heap.size) (smc (O) (D) (E)) 23, blk (w25.heap.size) (smc (0) (0) (0)) 23, blk (w2.heap.size) (bc (B.data.toList)) 42, blk (w.heap.size) (bc (A.data.toList)) 42] := hM.put 0 rfl t_ b_
  clear t_ b_
  refine wl_fare kn ?_
  simp (disch := omega) only [fx, pv, kx]
  refine wl_nil (κ32 _ _ ?_)
  refine wp_seq_k fun _ κ36 => ?_
  (try simp only [List.append_eq, List.cons_append, List.nil_append])
  refine wl_text (C := fun wx => Ms w wx [blk (w33.heap.size) (smc (0) (0) (0)) 23, vo p11 (⟨k, 0, [dw A hA, dw B hB], ⟨#[]⟩⟩), blk (w29.heap.size) (smc (O) (D) (E)) 23, blk (w25.heap.size) (smc (0) (0) (0)) 23, blk (w2.heap.size) (bc (B.data.toList)) 42, blk (w.heap.size) (bc (A.data.toList)) 42]) (by kernel_rfl) [.int .i64 (0), .bool true, .bool true, .int .i64 (0), .bool true, .bool true, .bool true, .int .i64 (11), .bool true, .bool true, .bool true, .int .i64 (2), .bool true, .bool true, .bool true, .int .i64 (0), .bool true, .bool true, undef, undef, .bool true, .bool true, undef, undef, .bool true, .bool true, undef, undef, .bool true, .bool true, .bool true, .int .i64 (10), .bool true, .bool true, .bool true] (by rfl) hM (by simp only [fullL, Act.put, st_a, st_s, st_0]; exact ⟨mvL rfl rfl, fun _ hM => gw rfl (g_ieq 25 _ _ .i64 (0) (0) true rfl rfl (by decide) ⟨rfl, hM⟩), mvL rfl rfl, mvL rfl rfl, fun _ hM => gw rfl (g_ieq 25 _ _ .i64 (0) (0) true rfl rfl (by decide) ⟨rfl, hM⟩), ptL rfl rfl rfl, mvL rfl rfl, mvL rfl rfl, fun _ hM => gw rfl (g_ieq 25 _ _ .i64 (11) (11) true rfl rfl (by decide) ⟨rfl, hM⟩), ptL rfl rfl rfl, mvL rfl rfl, mvL rfl rfl, fun _ hM => gw rfl (g_ieq 25 _ _ .i64 (2) (2) true rfl rfl (by decide) ⟨rfl, hM⟩), ptL rfl rfl rfl, mvL rfl rfl, mvL rfl rfl, fun _ hM => gw rfl (g_ieq 25 _ _ .i64 (0) (0) true rfl rfl (by decide) ⟨rfl, hM⟩), mvL rfl rfl, skL rfl, skL rfl, ptL rfl rfl rfl, mvL rfl rfl, skL rfl, skL rfl, ptL rfl rfl rfl, mvL rfl rfl, skL rfl, skL rfl, ptL rfl rfl rfl, ptL rfl rfl rfl, mvL rfl rfl, mvL rfl rfl, fun _ hM => gw rfl (g_ieq 25 _ _ .i64 (10) (10) true rfl rfl (by decide) ⟨rfl, hM⟩), ptL rfl rfl rfl, asL rfl rfl, trivial⟩) ?_
  simp only [fullL, Act.put, st_a, st_s, st_0]
  intro w37 hM
  refine κ36 _ _ (wp_ret ?_)
  go_ret
  exact ⟨rfl, hM.below⟩
set_option maxHeartbeats 8000000 in
theorem walk_11 (k A B : ByteArray) (n t2 t3 : Int) (w : World) (hT : Tabs w) (hA : A.size = 16) (hB : B.size = 16) (h1 : ¬ ((k.size : Nat) : Int) < 1) (h2 : ¬ 100 < ((k.size : Nat) : Int)) (h3 : ¬ A.data.toList = B.data.toList) (hk : k ≠ ⟨#[]⟩) (d1 : dw A hA ∉ ([] : List Dw)) (d2 : dw B hB ∉ [dw A hA]) (d3 : dw A hA ∈ [dw A hA, dw B hB]) (X Y P Q : ByteArray) (hX : Shut (A ++ mb n = X)) (hY : Shut (B ++ mb n = Y)) (sX : Shut (X.size = 24)) (sY : Shut (Y.size = 24)) (hP : Shut (anw k X t2 t3 = P)) (hQ : Shut (anw k Y t2 t3 = Q)) (hn : Wd.In64 n) (u1 : Shut (tk ⟨k, 0, [dw A hA, dw B hB], Y⟩ P n = (((0, 0, 0), 2), ⟨k, 0, [dw A hA, dw B hB], Y⟩))) (O D E : Int) (u2 : Shut (tk ⟨k, 0, [dw A hA, dw B hB], Y⟩ Q n = (((O, D, E), 1), ⟨k, 0, [dw A hA, dw B hB], ⟨#[]⟩⟩))) (u3 : Shut (tk ⟨k, 0, [dw A hA, dw B hB], ⟨#[]⟩⟩ Q n = (((0, 0, 0), 10), ⟨k, 0, [dw A hA, dw B hB], ⟨#[]⟩⟩))) : Calls Tryd.prog 5 #[.string k, .agg (bc A.data.toList).toArray, .agg (bc B.data.toList).toArray, .int .i64 n, .int .i64 t2, .int .i64 t3] w fun e w' => e = .returned (.bool true) ∧ Below w.heap.size w w' := by
  have hM := Ms.refl w
  go_enter Tryd.func5, Tryd.ntmps5
  refine wp_seq_k fun _ κ1 => wl_region (wl_give rfl (g_box 42 _ (bc (A.data.toList)) rfl ?_))
  intro w2 t_ b_
  replace hM := hM.new t_ b_
  clear t_ b_
  try simp only [nz]
  refine wl_give rfl (g_box 42 _ (bc (B.data.toList)) rfl fun w3 t_ b_ => ?_)
  replace hM := hM.new t_ b_
  clear t_ b_
  refine wl_fare kn ?_
  simp (disch := omega) only [fx, pv, kx]
  refine wl_nil (κ1 _ _ ?_)
  refine wp_seq_k fun _ κ4 => wp_seq_k fun _ κ5 => wl_region (wl_give rfl (g_cM hM (kf10 _ _) (awake_any w3 (hM.tabs hT)) rfl ?_))
  intro w6 hM
  refine wl_fare kn ?_
  simp (disch := omega) only [fx, pv, kx]
  refine wl_nil (κ5 _ _ ?_)
  refine wp_cond_false rfl (wp_skip ?_)
  refine κ4 _ _ (wp_seq_k fun _ κ7 => ?_)
  refine wp_seq_k fun _ κ8 => wl_region (wl_fare kn ?_)
  simp (disch := omega) only [fx, pv, kx]
  refine wl_give rfl (g_lenT _ (k) (((k.size : Nat) : Int)) rfl (rfl) ?_)
  refine wl_fare kn ?_
  simp (config := { maxSteps := 10000000 }) (disch := omega) only [fx, pv, kx]
  refine wl_give rfl (g_lenT _ (k) (((k.size : Nat) : Int)) rfl (rfl) ?_)
  refine wl_fare kn ?_
  simp (config := { maxSteps := 10000000 }) (disch := omega) only [fx, pv, kx]
  refine wl_give rfl (g_load_all 42 _ (w.heap.size) (bc A.data.toList) 42 _ rfl ((hM.get 1 rfl)) Tryd.underlying42 rfl (szB16 _ hA) ?_)
  try simp only [nz]
  refine wl_give rfl (g_load_all 42 _ (w2.heap.size) (bc B.data.toList) 42 _ rfl ((hM.get 0 rfl)) Tryd.underlying42 rfl (szB16 _ hB) ?_)
  try simp only [nz]
  refine wl_give rfl (g_eqlA _ _ A.data.toList B.data.toList hA hB false rfl rfl (decide_eq_false h3) ?_)
  refine wl_fare kn ?_
  simp (disch := omega) only [fx, pv, kx]
  refine wl_nil (κ8 _ _ ?_)
  refine wp_cond_false rfl (wp_skip ?_)
  refine κ7 _ _ (wp_seq_k fun _ κ9 => ?_)
  refine wl_region (wl_fare kn ?_)
  simp (disch := omega) only [fx, pv, kx]
  refine wl_give rfl (g_call 17 _ _ [.string (k), .int .i64 (0)] (kf17 _ _) rfl ((newv_e (k) (0) hk (by decide) (⟨k, 0, [], ⟨#[]⟩⟩) rfl hM).mono ?_))
  rintro e w10 ⟨p11, rfl, h_⟩
  refine ⟨_, rfl, ?_⟩
  replace hM : Ms w w10 [vo p11 (⟨k, 0, [], ⟨#[]⟩⟩), blk (w2.heap.size) (bc (B.data.toList)) 42, blk (w.heap.size) (bc (A.data.toList)) 42] := h_
  clear h_
  refine wl_fare kn ?_
  simp (config := { maxSteps := 10000000 }) (disch := omega) only [fx, pv, kx]
  refine wl_nil (κ9 _ _ ?_)
  refine wp_seq_k fun _ κ12 => wp_seq_k fun _ κ13 => wl_region (wl_fare kn ?_)
  simp (disch := omega) only [fx, pv, kx]
  refine wl_give rfl (g_peqV _ ((some ⟨p11, 0, none⟩)) false rfl rfl ?_)
  try simp only [nz]
  refine wl_nil (κ13 _ _ ?_)
  refine wp_cond_false rfl (wp_skip ?_)
  refine κ12 _ _ (wp_seq_k fun _ κ14 => ?_)
  refine wl_region (wl_fare kn ?_)
  simp (disch := omega) only [fx, pv, kx]
  refine wl_give rfl (g_slA _ (w.heap.size) rfl ?_)
  try simp only [nz]
  refine wl_give rfl (g_strB _ (w.heap.size) A hA 42 rfl ((hM.get 2 rfl)) ?_)
  refine wl_fare kn ?_
  simp (disch := omega) only [fx, pv, kx]
  refine wl_give rfl (g_call 18 _ _ [.pointer (some ⟨p11, 0, none⟩), .string (A), .int .i64 (n)] (kf18 _ _) rfl ((ask_e A n hA d1 X hX.out ⟨k, 0, [dw A hA], X⟩ rfl hM).mono ?_))
  rintro e w15 ⟨rfl, h_⟩
  refine ⟨_, rfl, ?_⟩
  replace hM : Ms w w15 [vo p11 (⟨k, 0, [dw A hA], X⟩), blk (w2.heap.size) (bc (B.data.toList)) 42, blk (w.heap.size) (bc (A.data.toList)) 42] := h_
  clear h_
  refine wl_fare kn ?_
  simp (config := { maxSteps := 10000000 }) (disch := omega) only [fx, pv, kx]
  refine wl_nil (κ14 _ _ ?_)
  refine wp_seq_k fun _ κ16 => wl_region (wl_fare kn ?_)
  simp (disch := omega) only [fx, pv, kx]
  refine wl_give rfl (g_slA _ (w2.heap.size) rfl ?_)
  try simp only [nz]
  refine wl_give rfl (g_strB _ (w2.heap.size) B hB 42 rfl ((hM.get 1 rfl)) ?_)
  refine wl_fare kn ?_
  simp (disch := omega) only [fx, pv, kx]
  refine wl_give rfl (g_call 18 _ _ [.pointer (some ⟨p11, 0, none⟩), .string (B), .int .i64 (n)] (kf18 _ _) rfl ((ask_e B n hB d2 Y hY.out ⟨k, 0, [dw A hA, dw B hB], Y⟩ rfl hM).mono ?_))
  rintro e w17 ⟨rfl, h_⟩
  refine ⟨_, rfl, ?_⟩
  replace hM : Ms w w17 [vo p11 (⟨k, 0, [dw A hA, dw B hB], Y⟩), blk (w2.heap.size) (bc (B.data.toList)) 42, blk (w.heap.size) (bc (A.data.toList)) 42] := h_
  clear h_
  refine wl_fare kn ?_
  simp (config := { maxSteps := 10000000 }) (disch := omega) only [fx, pv, kx]
  refine wl_nil (κ16 _ _ ?_)
  refine wp_seq_k fun _ κ18 => wl_region (wl_fare kn ?_)
  simp (disch := omega) only [fx, pv, kx]
  refine wl_give rfl (g_slA _ (w.heap.size) rfl ?_)
  try simp only [nz]
  refine wl_give rfl (g_strB _ (w.heap.size) A hA 42 rfl ((hM.get 2 rfl)) ?_)
  refine wl_fare kn ?_
  simp (disch := omega) only [fx, pv, kx]
  refine wl_give rfl (g_call 18 _ _ [.pointer (some ⟨p11, 0, none⟩), .string (A), .int .i64 (n)] (kf18 _ _) rfl ((ask_t A n hA d3 hM).mono ?_))
  rintro e w19 ⟨rfl, h_⟩
  refine ⟨_, rfl, ?_⟩
  replace hM : Ms w w19 [vo p11 (⟨k, 0, [dw A hA, dw B hB], Y⟩), blk (w2.heap.size) (bc (B.data.toList)) 42, blk (w.heap.size) (bc (A.data.toList)) 42] := h_
  clear h_
  refine wl_fare kn ?_
  simp (config := { maxSteps := 10000000 }) (disch := omega) only [fx, pv, kx]
  refine wl_nil (κ18 _ _ ?_)
  refine wp_seq_k fun _ κ20 => wl_region (wl_fare kn ?_)
  simp (config := { maxSteps := 10000000 }) (disch := omega) only [fx, pv, kx]
  refine wl_give rfl (g_cM hM (kf19 _ _) (answer_e (k) (X) (t2) (t3) w19 (hM.tabs hT) (by omega) sX.out (P) hP.out) rfl fun w21 hM => wl_fare kn ?_)
  simp (config := { maxSteps := 10000000 }) (disch := omega) only [fx, pv, kx]
  refine wl_nil (κ20 _ _ ?_)
  refine wp_seq_k fun _ κ22 => wl_region (wl_fare kn ?_)
  simp (config := { maxSteps := 10000000 }) (disch := omega) only [fx, pv, kx]
  refine wl_give rfl (g_cM hM (kf19 _ _) (answer_e (k) (Y) (t2) (t3) w21 (hM.tabs hT) (by omega) sY.out (Q) hQ.out) rfl fun w23 hM => wl_fare kn ?_)
  simp (config := { maxSteps := 10000000 }) (disch := omega) only [fx, pv, kx]
  refine wl_nil (κ22 _ _ ?_)
  refine wp_seq_k fun _ κ24 => wl_region (wl_fare kn ?_)
  simp (config := { maxSteps := 10000000 }) (disch := omega) only [fx, pv, kx]
  refine wl_give rfl (g_call 20 _ _ [.pointer (some ⟨p11, 0, none⟩), .string (P), .int .i64 (n)] (kf20 _ _) rfl ((take_any2 hT P n hn (show k.size ≤ 3000 by omega) 0 0 0 2 ⟨k, 0, [dw A hA, dw B hB], Y⟩ u1.out hM).mono ?_))
  rintro e w25 ⟨rfl, h_⟩
  refine ⟨_, rfl, ?_⟩
  replace hM : Ms w w25 [vo p11 (⟨k, 0, [dw A hA, dw B hB], Y⟩), blk (w2.heap.size) (bc (B.data.toList)) 42, blk (w.heap.size) (bc (A.data.toList)) 42] := h_
  clear h_
  refine wl_fare kn ?_
  simp (config := { maxSteps := 10000000 }) (disch := omega) only [fx, pv, kx]
  refine wl_give rfl (g_alloc 23 (smc (0) (0) (0)) zeroSm fun w26 t_ b_ => ?_)
  replace hM := hM.new t_ b_
  clear t_ b_
  try simp only [nz]
  refine wl_give rfl (g_store_all 23 _ _ (w25.heap.size) (smc (0) (0) (0)) _ 23 rfl rfl (hM.get 0 rfl) (szSm _ _ _) (rfl) (one_smc _ _ _) fun w27 t_ b_ => ?_)
  replace hM : Ms w w27 [blk (w25.heap.size) (smc (0) (0) (0)) 23, vo p11 (⟨k, 0, [dw A hA, dw B hB], Y⟩), blk (w2.heap.size) (bc (B.data.toList)) 42, blk (w.heap.size) (bc (A.data.toList)) 42] := hM.put 0 rfl t_ b_
  clear t_ b_
  refine wl_fare kn ?_
  simp (disch := omega) only [fx, pv, kx]
  refine wl_nil (κ24 _ _ ?_)
  refine wp_seq_k fun _ κ28 => wl_region (wl_fare kn ?_)
  simp (config := { maxSteps := 10000000 }) (disch := omega) only [fx, pv, kx]
  refine wl_give rfl (g_call 20 _ _ [.pointer (some ⟨p11, 0, none⟩), .string (Q), .int .i64 (n)] (kf20 _ _) rfl ((take_any2 hT Q n hn (show k.size ≤ 3000 by omega) O D E 1 ⟨k, 0, [dw A hA, dw B hB], ⟨#[]⟩⟩ u2.out (show Ms w w27 [vo p11 (⟨k, 0, [dw A hA, dw B hB], Y⟩), blk (w25.heap.size) (smc (0) (0) (0)) 23, blk (w2.heap.size) (bc (B.data.toList)) 42, blk (w.heap.size) (bc (A.data.toList)) 42] from (hM.up 1 rfl))).mono ?_))
  rintro e w29 ⟨rfl, h_⟩
  refine ⟨_, rfl, ?_⟩
  replace hM : Ms w w29 [vo p11 (⟨k, 0, [dw A hA, dw B hB], ⟨#[]⟩⟩), blk (w25.heap.size) (smc (0) (0) (0)) 23, blk (w2.heap.size) (bc (B.data.toList)) 42, blk (w.heap.size) (bc (A.data.toList)) 42] := h_
  clear h_
  refine wl_fare kn ?_
  simp (config := { maxSteps := 10000000 }) (disch := omega) only [fx, pv, kx]
  refine wl_give rfl (g_alloc 23 (smc (0) (0) (0)) zeroSm fun w30 t_ b_ => ?_)
  replace hM := hM.new t_ b_
  clear t_ b_
  try simp only [nz]
  refine wl_give rfl (g_store_all 23 _ _ (w29.heap.size) (smc (O) (D) (E)) _ 23 rfl rfl (hM.get 0 rfl) (szSm _ _ _) (rfl) (one_smc _ _ _) fun w31 t_ b_ => ?_)
  replace hM : Ms w w31 [blk (w29.heap.size) (smc (O) (D) (E)) 23, vo p11 (⟨k, 0, [dw A hA, dw B hB], ⟨#[]⟩⟩), blk (w25.heap.size) (smc (0) (0) (0)) 23, blk (w2.heap.size) (bc (B.data.toList)) 42, blk (w.heap.size) (bc (A.data.toList)) 42] := hM.put 0 rfl t_ b_
  clear t_ b_
  refine wl_fare kn ?_
  simp (disch := omega) only [fx, pv, kx]
  refine wl_nil (κ28 _ _ ?_)
  refine wp_seq_k fun _ κ32 => wl_region (wl_fare kn ?_)
  simp (config := { maxSteps := 10000000 }) (disch := omega) only [fx, pv, kx]
  refine wl_give rfl (g_call 20 _ _ [.pointer (some ⟨p11, 0, none⟩), .string (Q), .int .i64 (n)] (kf20 _ _) rfl ((take_any2 hT Q n hn (show k.size ≤ 3000 by omega) 0 0 0 10 ⟨k, 0, [dw A hA, dw B hB], ⟨#[]⟩⟩ u3.out (show Ms w w31 [vo p11 (⟨k, 0, [dw A hA, dw B hB], ⟨#[]⟩⟩), blk (w29.heap.size) (smc (O) (D) (E)) 23, blk (w25.heap.size) (smc (0) (0) (0)) 23, blk (w2.heap.size) (bc (B.data.toList)) 42, blk (w.heap.size) (bc (A.data.toList)) 42] from (hM.up 1 rfl))).mono ?_))
  rintro e w33 ⟨rfl, h_⟩
  refine ⟨_, rfl, ?_⟩
  replace hM : Ms w w33 [vo p11 (⟨k, 0, [dw A hA, dw B hB], ⟨#[]⟩⟩), blk (w29.heap.size) (smc (O) (D) (E)) 23, blk (w25.heap.size) (smc (0) (0) (0)) 23, blk (w2.heap.size) (bc (B.data.toList)) 42, blk (w.heap.size) (bc (A.data.toList)) 42] := h_
  clear h_
  refine wl_fare kn ?_
  simp (config := { maxSteps := 10000000 }) (disch := omega) only [fx, pv, kx]
  refine wl_give rfl (g_alloc 23 (smc (0) (0) (0)) zeroSm fun w34 t_ b_ => ?_)
  replace hM := hM.new t_ b_
  clear t_ b_
  try simp only [nz]
  refine wl_give rfl (g_store_all 23 _ _ (w33.heap.size) (smc (0) (0) (0)) _ 23 rfl rfl (hM.get 0 rfl) (szSm _ _ _) (rfl) (one_smc _ _ _) fun w35 t_ b_ => ?_)
  replace hM : Ms w w35 [blk (w33.heap.size) (smc (0) (0) (0)) 23, vo p11 (⟨k, 0, [dw A hA, dw B hB], ⟨#[]⟩⟩), blk (w29.heap.size) (smc (O) (D) (E)) 23, blk (w25.heap.size) (smc (0) (0) (0)) 23, blk (w2.heap.size) (bc (B.data.toList)) 42, blk (w.heap.size) (bc (A.data.toList)) 42] := hM.put 0 rfl t_ b_
  clear t_ b_
  refine wl_fare kn ?_
  simp (disch := omega) only [fx, pv, kx]
  refine wl_nil (κ32 _ _ ?_)
  refine wp_seq_k fun _ κ36 => ?_
  (try simp only [List.append_eq, List.cons_append, List.nil_append])
  refine wl_text (C := fun wx => Ms w wx [blk (w33.heap.size) (smc (0) (0) (0)) 23, vo p11 (⟨k, 0, [dw A hA, dw B hB], ⟨#[]⟩⟩), blk (w29.heap.size) (smc (O) (D) (E)) 23, blk (w25.heap.size) (smc (0) (0) (0)) 23, blk (w2.heap.size) (bc (B.data.toList)) 42, blk (w.heap.size) (bc (A.data.toList)) 42]) (by kernel_rfl) [.int .i64 (0), .bool true, .bool true, .int .i64 (0), .bool true, .bool true, .bool true, .int .i64 (11), .bool true, .bool true, .bool true, .int .i64 (2), .bool true, .bool true, .bool true, .int .i64 (1), .bool false, .bool false, .int .i64 (1), .bool true, .bool true, .bool true, undef, undef, .bool true, .bool true, undef, undef, .bool true, .bool true, .bool true, .int .i64 (10), .bool true, .bool true, .bool true] (by rfl) hM (by simp only [fullL, Act.put, st_a, st_s, st_0]; exact ⟨mvL rfl rfl, fun _ hM => gw rfl (g_ieq 25 _ _ .i64 (0) (0) true rfl rfl (by decide) ⟨rfl, hM⟩), mvL rfl rfl, mvL rfl rfl, fun _ hM => gw rfl (g_ieq 25 _ _ .i64 (0) (0) true rfl rfl (by decide) ⟨rfl, hM⟩), ptL rfl rfl rfl, mvL rfl rfl, mvL rfl rfl, fun _ hM => gw rfl (g_ieq 25 _ _ .i64 (11) (11) true rfl rfl (by decide) ⟨rfl, hM⟩), ptL rfl rfl rfl, mvL rfl rfl, mvL rfl rfl, fun _ hM => gw rfl (g_ieq 25 _ _ .i64 (2) (2) true rfl rfl (by decide) ⟨rfl, hM⟩), ptL rfl rfl rfl, mvL rfl rfl, mvL rfl rfl, fun _ hM => gw rfl (g_ieq 25 _ _ .i64 (1) (0) false rfl rfl (by decide) ⟨rfl, hM⟩), mvL rfl rfl, mvL rfl rfl, fun _ hM => gw rfl (g_ieq 25 _ _ .i64 (1) (1) true rfl rfl (by decide) ⟨rfl, hM⟩), pfL rfl rfl rfl, mvL rfl rfl, skL rfl, skL rfl, ptL rfl rfl rfl, mvL rfl rfl, skL rfl, skL rfl, ptL rfl rfl rfl, ptL rfl rfl rfl, mvL rfl rfl, mvL rfl rfl, fun _ hM => gw rfl (g_ieq 25 _ _ .i64 (10) (10) true rfl rfl (by decide) ⟨rfl, hM⟩), ptL rfl rfl rfl, asL rfl rfl, trivial⟩) ?_
  simp only [fullL, Act.put, st_a, st_s, st_0]
  intro w37 hM
  refine κ36 _ _ (wp_ret ?_)
  go_ret
  exact ⟨rfl, hM.below⟩
set_option maxHeartbeats 8000000 in
theorem walk_13 (k A B : ByteArray) (n t2 t3 : Int) (w : World) (hT : Tabs w) (hA : A.size = 16) (hB : B.size = 16) (h1 : ¬ ((k.size : Nat) : Int) < 1) (h2 : ¬ 100 < ((k.size : Nat) : Int)) (h3 : ¬ A.data.toList = B.data.toList) (hk : k ≠ ⟨#[]⟩) (d1 : dw A hA ∉ ([] : List Dw)) (d2 : dw B hB ∉ [dw A hA]) (d3 : dw A hA ∈ [dw A hA, dw B hB]) (X Y P Q : ByteArray) (hX : Shut (A ++ mb n = X)) (hY : Shut (B ++ mb n = Y)) (sX : Shut (X.size = 24)) (sY : Shut (Y.size = 24)) (hP : Shut (anw k X t2 t3 = P)) (hQ : Shut (anw k Y t2 t3 = Q)) (hn : Wd.In64 n) (u1 : Shut (tk ⟨k, 0, [dw A hA, dw B hB], Y⟩ P n = (((0, 0, 0), 2), ⟨k, 0, [dw A hA, dw B hB], Y⟩))) (O D E : Int) (u2 : Shut (tk ⟨k, 0, [dw A hA, dw B hB], Y⟩ Q n = (((O, D, E), 3), ⟨k, 0, [dw A hA, dw B hB], ⟨#[]⟩⟩))) (u3 : Shut (tk ⟨k, 0, [dw A hA, dw B hB], ⟨#[]⟩⟩ Q n = (((0, 0, 0), 10), ⟨k, 0, [dw A hA, dw B hB], ⟨#[]⟩⟩))) : Calls Tryd.prog 5 #[.string k, .agg (bc A.data.toList).toArray, .agg (bc B.data.toList).toArray, .int .i64 n, .int .i64 t2, .int .i64 t3] w fun e w' => e = .returned (.bool true) ∧ Below w.heap.size w w' := by
  have hM := Ms.refl w
  go_enter Tryd.func5, Tryd.ntmps5
  refine wp_seq_k fun _ κ1 => wl_region (wl_give rfl (g_box 42 _ (bc (A.data.toList)) rfl ?_))
  intro w2 t_ b_
  replace hM := hM.new t_ b_
  clear t_ b_
  try simp only [nz]
  refine wl_give rfl (g_box 42 _ (bc (B.data.toList)) rfl fun w3 t_ b_ => ?_)
  replace hM := hM.new t_ b_
  clear t_ b_
  refine wl_fare kn ?_
  simp (disch := omega) only [fx, pv, kx]
  refine wl_nil (κ1 _ _ ?_)
  refine wp_seq_k fun _ κ4 => wp_seq_k fun _ κ5 => wl_region (wl_give rfl (g_cM hM (kf10 _ _) (awake_any w3 (hM.tabs hT)) rfl ?_))
  intro w6 hM
  refine wl_fare kn ?_
  simp (disch := omega) only [fx, pv, kx]
  refine wl_nil (κ5 _ _ ?_)
  refine wp_cond_false rfl (wp_skip ?_)
  refine κ4 _ _ (wp_seq_k fun _ κ7 => ?_)
  refine wp_seq_k fun _ κ8 => wl_region (wl_fare kn ?_)
  simp (disch := omega) only [fx, pv, kx]
  refine wl_give rfl (g_lenT _ (k) (((k.size : Nat) : Int)) rfl (rfl) ?_)
  refine wl_fare kn ?_
  simp (config := { maxSteps := 10000000 }) (disch := omega) only [fx, pv, kx]
  refine wl_give rfl (g_lenT _ (k) (((k.size : Nat) : Int)) rfl (rfl) ?_)
  refine wl_fare kn ?_
  simp (config := { maxSteps := 10000000 }) (disch := omega) only [fx, pv, kx]
  refine wl_give rfl (g_load_all 42 _ (w.heap.size) (bc A.data.toList) 42 _ rfl ((hM.get 1 rfl)) Tryd.underlying42 rfl (szB16 _ hA) ?_)
  try simp only [nz]
  refine wl_give rfl (g_load_all 42 _ (w2.heap.size) (bc B.data.toList) 42 _ rfl ((hM.get 0 rfl)) Tryd.underlying42 rfl (szB16 _ hB) ?_)
  try simp only [nz]
  refine wl_give rfl (g_eqlA _ _ A.data.toList B.data.toList hA hB false rfl rfl (decide_eq_false h3) ?_)
  refine wl_fare kn ?_
  simp (disch := omega) only [fx, pv, kx]
  refine wl_nil (κ8 _ _ ?_)
  refine wp_cond_false rfl (wp_skip ?_)
  refine κ7 _ _ (wp_seq_k fun _ κ9 => ?_)
  refine wl_region (wl_fare kn ?_)
  simp (disch := omega) only [fx, pv, kx]
  refine wl_give rfl (g_call 17 _ _ [.string (k), .int .i64 (0)] (kf17 _ _) rfl ((newv_e (k) (0) hk (by decide) (⟨k, 0, [], ⟨#[]⟩⟩) rfl hM).mono ?_))
  rintro e w10 ⟨p11, rfl, h_⟩
  refine ⟨_, rfl, ?_⟩
  replace hM : Ms w w10 [vo p11 (⟨k, 0, [], ⟨#[]⟩⟩), blk (w2.heap.size) (bc (B.data.toList)) 42, blk (w.heap.size) (bc (A.data.toList)) 42] := h_
  clear h_
  refine wl_fare kn ?_
  simp (config := { maxSteps := 10000000 }) (disch := omega) only [fx, pv, kx]
  refine wl_nil (κ9 _ _ ?_)
  refine wp_seq_k fun _ κ12 => wp_seq_k fun _ κ13 => wl_region (wl_fare kn ?_)
  simp (disch := omega) only [fx, pv, kx]
  refine wl_give rfl (g_peqV _ ((some ⟨p11, 0, none⟩)) false rfl rfl ?_)
  try simp only [nz]
  refine wl_nil (κ13 _ _ ?_)
  refine wp_cond_false rfl (wp_skip ?_)
  refine κ12 _ _ (wp_seq_k fun _ κ14 => ?_)
  refine wl_region (wl_fare kn ?_)
  simp (disch := omega) only [fx, pv, kx]
  refine wl_give rfl (g_slA _ (w.heap.size) rfl ?_)
  try simp only [nz]
  refine wl_give rfl (g_strB _ (w.heap.size) A hA 42 rfl ((hM.get 2 rfl)) ?_)
  refine wl_fare kn ?_
  simp (disch := omega) only [fx, pv, kx]
  refine wl_give rfl (g_call 18 _ _ [.pointer (some ⟨p11, 0, none⟩), .string (A), .int .i64 (n)] (kf18 _ _) rfl ((ask_e A n hA d1 X hX.out ⟨k, 0, [dw A hA], X⟩ rfl hM).mono ?_))
  rintro e w15 ⟨rfl, h_⟩
  refine ⟨_, rfl, ?_⟩
  replace hM : Ms w w15 [vo p11 (⟨k, 0, [dw A hA], X⟩), blk (w2.heap.size) (bc (B.data.toList)) 42, blk (w.heap.size) (bc (A.data.toList)) 42] := h_
  clear h_
  refine wl_fare kn ?_
  simp (config := { maxSteps := 10000000 }) (disch := omega) only [fx, pv, kx]
  refine wl_nil (κ14 _ _ ?_)
  refine wp_seq_k fun _ κ16 => wl_region (wl_fare kn ?_)
  simp (disch := omega) only [fx, pv, kx]
  refine wl_give rfl (g_slA _ (w2.heap.size) rfl ?_)
  try simp only [nz]
  refine wl_give rfl (g_strB _ (w2.heap.size) B hB 42 rfl ((hM.get 1 rfl)) ?_)
  refine wl_fare kn ?_
  simp (disch := omega) only [fx, pv, kx]
  refine wl_give rfl (g_call 18 _ _ [.pointer (some ⟨p11, 0, none⟩), .string (B), .int .i64 (n)] (kf18 _ _) rfl ((ask_e B n hB d2 Y hY.out ⟨k, 0, [dw A hA, dw B hB], Y⟩ rfl hM).mono ?_))
  rintro e w17 ⟨rfl, h_⟩
  refine ⟨_, rfl, ?_⟩
  replace hM : Ms w w17 [vo p11 (⟨k, 0, [dw A hA, dw B hB], Y⟩), blk (w2.heap.size) (bc (B.data.toList)) 42, blk (w.heap.size) (bc (A.data.toList)) 42] := h_
  clear h_
  refine wl_fare kn ?_
  simp (config := { maxSteps := 10000000 }) (disch := omega) only [fx, pv, kx]
  refine wl_nil (κ16 _ _ ?_)
  refine wp_seq_k fun _ κ18 => wl_region (wl_fare kn ?_)
  simp (disch := omega) only [fx, pv, kx]
  refine wl_give rfl (g_slA _ (w.heap.size) rfl ?_)
  try simp only [nz]
  refine wl_give rfl (g_strB _ (w.heap.size) A hA 42 rfl ((hM.get 2 rfl)) ?_)
  refine wl_fare kn ?_
  simp (disch := omega) only [fx, pv, kx]
  refine wl_give rfl (g_call 18 _ _ [.pointer (some ⟨p11, 0, none⟩), .string (A), .int .i64 (n)] (kf18 _ _) rfl ((ask_t A n hA d3 hM).mono ?_))
  rintro e w19 ⟨rfl, h_⟩
  refine ⟨_, rfl, ?_⟩
  replace hM : Ms w w19 [vo p11 (⟨k, 0, [dw A hA, dw B hB], Y⟩), blk (w2.heap.size) (bc (B.data.toList)) 42, blk (w.heap.size) (bc (A.data.toList)) 42] := h_
  clear h_
  refine wl_fare kn ?_
  simp (config := { maxSteps := 10000000 }) (disch := omega) only [fx, pv, kx]
  refine wl_nil (κ18 _ _ ?_)
  refine wp_seq_k fun _ κ20 => wl_region (wl_fare kn ?_)
  simp (config := { maxSteps := 10000000 }) (disch := omega) only [fx, pv, kx]
  refine wl_give rfl (g_cM hM (kf19 _ _) (answer_e (k) (X) (t2) (t3) w19 (hM.tabs hT) (by omega) sX.out (P) hP.out) rfl fun w21 hM => wl_fare kn ?_)
  simp (config := { maxSteps := 10000000 }) (disch := omega) only [fx, pv, kx]
  refine wl_nil (κ20 _ _ ?_)
  refine wp_seq_k fun _ κ22 => wl_region (wl_fare kn ?_)
  simp (config := { maxSteps := 10000000 }) (disch := omega) only [fx, pv, kx]
  refine wl_give rfl (g_cM hM (kf19 _ _) (answer_e (k) (Y) (t2) (t3) w21 (hM.tabs hT) (by omega) sY.out (Q) hQ.out) rfl fun w23 hM => wl_fare kn ?_)
  simp (config := { maxSteps := 10000000 }) (disch := omega) only [fx, pv, kx]
  refine wl_nil (κ22 _ _ ?_)
  refine wp_seq_k fun _ κ24 => wl_region (wl_fare kn ?_)
  simp (config := { maxSteps := 10000000 }) (disch := omega) only [fx, pv, kx]
  refine wl_give rfl (g_call 20 _ _ [.pointer (some ⟨p11, 0, none⟩), .string (P), .int .i64 (n)] (kf20 _ _) rfl ((take_any2 hT P n hn (show k.size ≤ 3000 by omega) 0 0 0 2 ⟨k, 0, [dw A hA, dw B hB], Y⟩ u1.out hM).mono ?_))
  rintro e w25 ⟨rfl, h_⟩
  refine ⟨_, rfl, ?_⟩
  replace hM : Ms w w25 [vo p11 (⟨k, 0, [dw A hA, dw B hB], Y⟩), blk (w2.heap.size) (bc (B.data.toList)) 42, blk (w.heap.size) (bc (A.data.toList)) 42] := h_
  clear h_
  refine wl_fare kn ?_
  simp (config := { maxSteps := 10000000 }) (disch := omega) only [fx, pv, kx]
  refine wl_give rfl (g_alloc 23 (smc (0) (0) (0)) zeroSm fun w26 t_ b_ => ?_)
  replace hM := hM.new t_ b_
  clear t_ b_
  try simp only [nz]
  refine wl_give rfl (g_store_all 23 _ _ (w25.heap.size) (smc (0) (0) (0)) _ 23 rfl rfl (hM.get 0 rfl) (szSm _ _ _) (rfl) (one_smc _ _ _) fun w27 t_ b_ => ?_)
  replace hM : Ms w w27 [blk (w25.heap.size) (smc (0) (0) (0)) 23, vo p11 (⟨k, 0, [dw A hA, dw B hB], Y⟩), blk (w2.heap.size) (bc (B.data.toList)) 42, blk (w.heap.size) (bc (A.data.toList)) 42] := hM.put 0 rfl t_ b_
  clear t_ b_
  refine wl_fare kn ?_
  simp (disch := omega) only [fx, pv, kx]
  refine wl_nil (κ24 _ _ ?_)
  refine wp_seq_k fun _ κ28 => wl_region (wl_fare kn ?_)
  simp (config := { maxSteps := 10000000 }) (disch := omega) only [fx, pv, kx]
  refine wl_give rfl (g_call 20 _ _ [.pointer (some ⟨p11, 0, none⟩), .string (Q), .int .i64 (n)] (kf20 _ _) rfl ((take_any2 hT Q n hn (show k.size ≤ 3000 by omega) O D E 3 ⟨k, 0, [dw A hA, dw B hB], ⟨#[]⟩⟩ u2.out (show Ms w w27 [vo p11 (⟨k, 0, [dw A hA, dw B hB], Y⟩), blk (w25.heap.size) (smc (0) (0) (0)) 23, blk (w2.heap.size) (bc (B.data.toList)) 42, blk (w.heap.size) (bc (A.data.toList)) 42] from (hM.up 1 rfl))).mono ?_))
  rintro e w29 ⟨rfl, h_⟩
  refine ⟨_, rfl, ?_⟩
  replace hM : Ms w w29 [vo p11 (⟨k, 0, [dw A hA, dw B hB], ⟨#[]⟩⟩), blk (w25.heap.size) (smc (0) (0) (0)) 23, blk (w2.heap.size) (bc (B.data.toList)) 42, blk (w.heap.size) (bc (A.data.toList)) 42] := h_
  clear h_
  refine wl_fare kn ?_
  simp (config := { maxSteps := 10000000 }) (disch := omega) only [fx, pv, kx]
  refine wl_give rfl (g_alloc 23 (smc (0) (0) (0)) zeroSm fun w30 t_ b_ => ?_)
  replace hM := hM.new t_ b_
  clear t_ b_
  try simp only [nz]
  refine wl_give rfl (g_store_all 23 _ _ (w29.heap.size) (smc (O) (D) (E)) _ 23 rfl rfl (hM.get 0 rfl) (szSm _ _ _) (rfl) (one_smc _ _ _) fun w31 t_ b_ => ?_)
  replace hM : Ms w w31 [blk (w29.heap.size) (smc (O) (D) (E)) 23, vo p11 (⟨k, 0, [dw A hA, dw B hB], ⟨#[]⟩⟩), blk (w25.heap.size) (smc (0) (0) (0)) 23, blk (w2.heap.size) (bc (B.data.toList)) 42, blk (w.heap.size) (bc (A.data.toList)) 42] := hM.put 0 rfl t_ b_
  clear t_ b_
  refine wl_fare kn ?_
  simp (disch := omega) only [fx, pv, kx]
  refine wl_nil (κ28 _ _ ?_)
  refine wp_seq_k fun _ κ32 => wl_region (wl_fare kn ?_)
  simp (config := { maxSteps := 10000000 }) (disch := omega) only [fx, pv, kx]
  refine wl_give rfl (g_call 20 _ _ [.pointer (some ⟨p11, 0, none⟩), .string (Q), .int .i64 (n)] (kf20 _ _) rfl ((take_any2 hT Q n hn (show k.size ≤ 3000 by omega) 0 0 0 10 ⟨k, 0, [dw A hA, dw B hB], ⟨#[]⟩⟩ u3.out (show Ms w w31 [vo p11 (⟨k, 0, [dw A hA, dw B hB], ⟨#[]⟩⟩), blk (w29.heap.size) (smc (O) (D) (E)) 23, blk (w25.heap.size) (smc (0) (0) (0)) 23, blk (w2.heap.size) (bc (B.data.toList)) 42, blk (w.heap.size) (bc (A.data.toList)) 42] from (hM.up 1 rfl))).mono ?_))
  rintro e w33 ⟨rfl, h_⟩
  refine ⟨_, rfl, ?_⟩
  replace hM : Ms w w33 [vo p11 (⟨k, 0, [dw A hA, dw B hB], ⟨#[]⟩⟩), blk (w29.heap.size) (smc (O) (D) (E)) 23, blk (w25.heap.size) (smc (0) (0) (0)) 23, blk (w2.heap.size) (bc (B.data.toList)) 42, blk (w.heap.size) (bc (A.data.toList)) 42] := h_
  clear h_
  refine wl_fare kn ?_
  simp (config := { maxSteps := 10000000 }) (disch := omega) only [fx, pv, kx]
  refine wl_give rfl (g_alloc 23 (smc (0) (0) (0)) zeroSm fun w34 t_ b_ => ?_)
  replace hM := hM.new t_ b_
  clear t_ b_
  try simp only [nz]
  refine wl_give rfl (g_store_all 23 _ _ (w33.heap.size) (smc (0) (0) (0)) _ 23 rfl rfl (hM.get 0 rfl) (szSm _ _ _) (rfl) (one_smc _ _ _) fun w35 t_ b_ => ?_)
  replace hM : Ms w w35 [blk (w33.heap.size) (smc (0) (0) (0)) 23, vo p11 (⟨k, 0, [dw A hA, dw B hB], ⟨#[]⟩⟩), blk (w29.heap.size) (smc (O) (D) (E)) 23, blk (w25.heap.size) (smc (0) (0) (0)) 23, blk (w2.heap.size) (bc (B.data.toList)) 42, blk (w.heap.size) (bc (A.data.toList)) 42] := hM.put 0 rfl t_ b_
  clear t_ b_
  refine wl_fare kn ?_
  simp (disch := omega) only [fx, pv, kx]
  refine wl_nil (κ32 _ _ ?_)
  refine wp_seq_k fun _ κ36 => ?_
  (try simp only [List.append_eq, List.cons_append, List.nil_append])
  refine wl_text (C := fun wx => Ms w wx [blk (w33.heap.size) (smc (0) (0) (0)) 23, vo p11 (⟨k, 0, [dw A hA, dw B hB], ⟨#[]⟩⟩), blk (w29.heap.size) (smc (O) (D) (E)) 23, blk (w25.heap.size) (smc (0) (0) (0)) 23, blk (w2.heap.size) (bc (B.data.toList)) 42, blk (w.heap.size) (bc (A.data.toList)) 42]) (by kernel_rfl) [.int .i64 (0), .bool true, .bool true, .int .i64 (0), .bool true, .bool true, .bool true, .int .i64 (11), .bool true, .bool true, .bool true, .int .i64 (2), .bool true, .bool true, .bool true, .int .i64 (3), .bool false, .bool false, .int .i64 (3), .bool false, .bool false, .bool false, .int .i64 (3), .bool false, .bool false, .bool false, .int .i64 (3), .bool true, .bool true, .bool true, .bool true, .int .i64 (10), .bool true, .bool true, .bool true] (by rfl) hM (by simp only [fullL, Act.put, st_a, st_s, st_0]; exact ⟨mvL rfl rfl, fun _ hM => gw rfl (g_ieq 25 _ _ .i64 (0) (0) true rfl rfl (by decide) ⟨rfl, hM⟩), mvL rfl rfl, mvL rfl rfl, fun _ hM => gw rfl (g_ieq 25 _ _ .i64 (0) (0) true rfl rfl (by decide) ⟨rfl, hM⟩), ptL rfl rfl rfl, mvL rfl rfl, mvL rfl rfl, fun _ hM => gw rfl (g_ieq 25 _ _ .i64 (11) (11) true rfl rfl (by decide) ⟨rfl, hM⟩), ptL rfl rfl rfl, mvL rfl rfl, mvL rfl rfl, fun _ hM => gw rfl (g_ieq 25 _ _ .i64 (2) (2) true rfl rfl (by decide) ⟨rfl, hM⟩), ptL rfl rfl rfl, mvL rfl rfl, mvL rfl rfl, fun _ hM => gw rfl (g_ieq 25 _ _ .i64 (3) (0) false rfl rfl (by decide) ⟨rfl, hM⟩), mvL rfl rfl, mvL rfl rfl, fun _ hM => gw rfl (g_ieq 25 _ _ .i64 (3) (1) false rfl rfl (by decide) ⟨rfl, hM⟩), pfL rfl rfl rfl, mvL rfl rfl, mvL rfl rfl, fun _ hM => gw rfl (g_ieq 25 _ _ .i64 (3) (6) false rfl rfl (by decide) ⟨rfl, hM⟩), pfL rfl rfl rfl, mvL rfl rfl, mvL rfl rfl, fun _ hM => gw rfl (g_ieq 25 _ _ .i64 (3) (3) true rfl rfl (by decide) ⟨rfl, hM⟩), pfL rfl rfl rfl, ptL rfl rfl rfl, mvL rfl rfl, mvL rfl rfl, fun _ hM => gw rfl (g_ieq 25 _ _ .i64 (10) (10) true rfl rfl (by decide) ⟨rfl, hM⟩), ptL rfl rfl rfl, asL rfl rfl, trivial⟩) ?_
  simp only [fullL, Act.put, st_a, st_s, st_0]
  intro w37 hM
  refine κ36 _ _ (wp_ret ?_)
  go_ret
  exact ⟨rfl, hM.below⟩
set_option maxHeartbeats 8000000 in
theorem walk_16 (k A B : ByteArray) (n t2 t3 : Int) (w : World) (hT : Tabs w) (hA : A.size = 16) (hB : B.size = 16) (h1 : ¬ ((k.size : Nat) : Int) < 1) (h2 : ¬ 100 < ((k.size : Nat) : Int)) (h3 : ¬ A.data.toList = B.data.toList) (hk : k ≠ ⟨#[]⟩) (d1 : dw A hA ∉ ([] : List Dw)) (d2 : dw B hB ∉ [dw A hA]) (d3 : dw A hA ∈ [dw A hA, dw B hB]) (X Y P Q : ByteArray) (hX : Shut (A ++ mb n = X)) (hY : Shut (B ++ mb n = Y)) (sX : Shut (X.size = 24)) (sY : Shut (Y.size = 24)) (hP : Shut (anw k X t2 t3 = P)) (hQ : Shut (anw k Y t2 t3 = Q)) (hn : Wd.In64 n) (u1 : Shut (tk ⟨k, 0, [dw A hA, dw B hB], Y⟩ P n = (((0, 0, 0), 2), ⟨k, 0, [dw A hA, dw B hB], Y⟩))) (O D E : Int) (u2 : Shut (tk ⟨k, 0, [dw A hA, dw B hB], Y⟩ Q n = (((O, D, E), 6), ⟨k, 0, [dw A hA, dw B hB], ⟨#[]⟩⟩))) (u3 : Shut (tk ⟨k, 0, [dw A hA, dw B hB], ⟨#[]⟩⟩ Q n = (((0, 0, 0), 10), ⟨k, 0, [dw A hA, dw B hB], ⟨#[]⟩⟩))) : Calls Tryd.prog 5 #[.string k, .agg (bc A.data.toList).toArray, .agg (bc B.data.toList).toArray, .int .i64 n, .int .i64 t2, .int .i64 t3] w fun e w' => e = .returned (.bool true) ∧ Below w.heap.size w w' := by
  have hM := Ms.refl w
  go_enter Tryd.func5, Tryd.ntmps5
  refine wp_seq_k fun _ κ1 => wl_region (wl_give rfl (g_box 42 _ (bc (A.data.toList)) rfl ?_))
  intro w2 t_ b_
  replace hM := hM.new t_ b_
  clear t_ b_
  try simp only [nz]
  refine wl_give rfl (g_box 42 _ (bc (B.data.toList)) rfl fun w3 t_ b_ => ?_)
  replace hM := hM.new t_ b_
  clear t_ b_
  refine wl_fare kn ?_
  simp (disch := omega) only [fx, pv, kx]
  refine wl_nil (κ1 _ _ ?_)
  refine wp_seq_k fun _ κ4 => wp_seq_k fun _ κ5 => wl_region (wl_give rfl (g_cM hM (kf10 _ _) (awake_any w3 (hM.tabs hT)) rfl ?_))
  intro w6 hM
  refine wl_fare kn ?_
  simp (disch := omega) only [fx, pv, kx]
  refine wl_nil (κ5 _ _ ?_)
  refine wp_cond_false rfl (wp_skip ?_)
  refine κ4 _ _ (wp_seq_k fun _ κ7 => ?_)
  refine wp_seq_k fun _ κ8 => wl_region (wl_fare kn ?_)
  simp (disch := omega) only [fx, pv, kx]
  refine wl_give rfl (g_lenT _ (k) (((k.size : Nat) : Int)) rfl (rfl) ?_)
  refine wl_fare kn ?_
  simp (config := { maxSteps := 10000000 }) (disch := omega) only [fx, pv, kx]
  refine wl_give rfl (g_lenT _ (k) (((k.size : Nat) : Int)) rfl (rfl) ?_)
  refine wl_fare kn ?_
  simp (config := { maxSteps := 10000000 }) (disch := omega) only [fx, pv, kx]
  refine wl_give rfl (g_load_all 42 _ (w.heap.size) (bc A.data.toList) 42 _ rfl ((hM.get 1 rfl)) Tryd.underlying42 rfl (szB16 _ hA) ?_)
  try simp only [nz]
  refine wl_give rfl (g_load_all 42 _ (w2.heap.size) (bc B.data.toList) 42 _ rfl ((hM.get 0 rfl)) Tryd.underlying42 rfl (szB16 _ hB) ?_)
  try simp only [nz]
  refine wl_give rfl (g_eqlA _ _ A.data.toList B.data.toList hA hB false rfl rfl (decide_eq_false h3) ?_)
  refine wl_fare kn ?_
  simp (disch := omega) only [fx, pv, kx]
  refine wl_nil (κ8 _ _ ?_)
  refine wp_cond_false rfl (wp_skip ?_)
  refine κ7 _ _ (wp_seq_k fun _ κ9 => ?_)
  refine wl_region (wl_fare kn ?_)
  simp (disch := omega) only [fx, pv, kx]
  refine wl_give rfl (g_call 17 _ _ [.string (k), .int .i64 (0)] (kf17 _ _) rfl ((newv_e (k) (0) hk (by decide) (⟨k, 0, [], ⟨#[]⟩⟩) rfl hM).mono ?_))
  rintro e w10 ⟨p11, rfl, h_⟩
  refine ⟨_, rfl, ?_⟩
  replace hM : Ms w w10 [vo p11 (⟨k, 0, [], ⟨#[]⟩⟩), blk (w2.heap.size) (bc (B.data.toList)) 42, blk (w.heap.size) (bc (A.data.toList)) 42] := h_
  clear h_
  refine wl_fare kn ?_
  simp (config := { maxSteps := 10000000 }) (disch := omega) only [fx, pv, kx]
  refine wl_nil (κ9 _ _ ?_)
  refine wp_seq_k fun _ κ12 => wp_seq_k fun _ κ13 => wl_region (wl_fare kn ?_)
  simp (disch := omega) only [fx, pv, kx]
  refine wl_give rfl (g_peqV _ ((some ⟨p11, 0, none⟩)) false rfl rfl ?_)
  try simp only [nz]
  refine wl_nil (κ13 _ _ ?_)
  refine wp_cond_false rfl (wp_skip ?_)
  refine κ12 _ _ (wp_seq_k fun _ κ14 => ?_)
  refine wl_region (wl_fare kn ?_)
  simp (disch := omega) only [fx, pv, kx]
  refine wl_give rfl (g_slA _ (w.heap.size) rfl ?_)
  try simp only [nz]
  refine wl_give rfl (g_strB _ (w.heap.size) A hA 42 rfl ((hM.get 2 rfl)) ?_)
  refine wl_fare kn ?_
  simp (disch := omega) only [fx, pv, kx]
  refine wl_give rfl (g_call 18 _ _ [.pointer (some ⟨p11, 0, none⟩), .string (A), .int .i64 (n)] (kf18 _ _) rfl ((ask_e A n hA d1 X hX.out ⟨k, 0, [dw A hA], X⟩ rfl hM).mono ?_))
  rintro e w15 ⟨rfl, h_⟩
  refine ⟨_, rfl, ?_⟩
  replace hM : Ms w w15 [vo p11 (⟨k, 0, [dw A hA], X⟩), blk (w2.heap.size) (bc (B.data.toList)) 42, blk (w.heap.size) (bc (A.data.toList)) 42] := h_
  clear h_
  refine wl_fare kn ?_
  simp (config := { maxSteps := 10000000 }) (disch := omega) only [fx, pv, kx]
  refine wl_nil (κ14 _ _ ?_)
  refine wp_seq_k fun _ κ16 => wl_region (wl_fare kn ?_)
  simp (disch := omega) only [fx, pv, kx]
  refine wl_give rfl (g_slA _ (w2.heap.size) rfl ?_)
  try simp only [nz]
  refine wl_give rfl (g_strB _ (w2.heap.size) B hB 42 rfl ((hM.get 1 rfl)) ?_)
  refine wl_fare kn ?_
  simp (disch := omega) only [fx, pv, kx]
  refine wl_give rfl (g_call 18 _ _ [.pointer (some ⟨p11, 0, none⟩), .string (B), .int .i64 (n)] (kf18 _ _) rfl ((ask_e B n hB d2 Y hY.out ⟨k, 0, [dw A hA, dw B hB], Y⟩ rfl hM).mono ?_))
  rintro e w17 ⟨rfl, h_⟩
  refine ⟨_, rfl, ?_⟩
  replace hM : Ms w w17 [vo p11 (⟨k, 0, [dw A hA, dw B hB], Y⟩), blk (w2.heap.size) (bc (B.data.toList)) 42, blk (w.heap.size) (bc (A.data.toList)) 42] := h_
  clear h_
  refine wl_fare kn ?_
  simp (config := { maxSteps := 10000000 }) (disch := omega) only [fx, pv, kx]
  refine wl_nil (κ16 _ _ ?_)
  refine wp_seq_k fun _ κ18 => wl_region (wl_fare kn ?_)
  simp (disch := omega) only [fx, pv, kx]
  refine wl_give rfl (g_slA _ (w.heap.size) rfl ?_)
  try simp only [nz]
  refine wl_give rfl (g_strB _ (w.heap.size) A hA 42 rfl ((hM.get 2 rfl)) ?_)
  refine wl_fare kn ?_
  simp (disch := omega) only [fx, pv, kx]
  refine wl_give rfl (g_call 18 _ _ [.pointer (some ⟨p11, 0, none⟩), .string (A), .int .i64 (n)] (kf18 _ _) rfl ((ask_t A n hA d3 hM).mono ?_))
  rintro e w19 ⟨rfl, h_⟩
  refine ⟨_, rfl, ?_⟩
  replace hM : Ms w w19 [vo p11 (⟨k, 0, [dw A hA, dw B hB], Y⟩), blk (w2.heap.size) (bc (B.data.toList)) 42, blk (w.heap.size) (bc (A.data.toList)) 42] := h_
  clear h_
  refine wl_fare kn ?_
  simp (config := { maxSteps := 10000000 }) (disch := omega) only [fx, pv, kx]
  refine wl_nil (κ18 _ _ ?_)
  refine wp_seq_k fun _ κ20 => wl_region (wl_fare kn ?_)
  simp (config := { maxSteps := 10000000 }) (disch := omega) only [fx, pv, kx]
  refine wl_give rfl (g_cM hM (kf19 _ _) (answer_e (k) (X) (t2) (t3) w19 (hM.tabs hT) (by omega) sX.out (P) hP.out) rfl fun w21 hM => wl_fare kn ?_)
  simp (config := { maxSteps := 10000000 }) (disch := omega) only [fx, pv, kx]
  refine wl_nil (κ20 _ _ ?_)
  refine wp_seq_k fun _ κ22 => wl_region (wl_fare kn ?_)
  simp (config := { maxSteps := 10000000 }) (disch := omega) only [fx, pv, kx]
  refine wl_give rfl (g_cM hM (kf19 _ _) (answer_e (k) (Y) (t2) (t3) w21 (hM.tabs hT) (by omega) sY.out (Q) hQ.out) rfl fun w23 hM => wl_fare kn ?_)
  simp (config := { maxSteps := 10000000 }) (disch := omega) only [fx, pv, kx]
  refine wl_nil (κ22 _ _ ?_)
  refine wp_seq_k fun _ κ24 => wl_region (wl_fare kn ?_)
  simp (config := { maxSteps := 10000000 }) (disch := omega) only [fx, pv, kx]
  refine wl_give rfl (g_call 20 _ _ [.pointer (some ⟨p11, 0, none⟩), .string (P), .int .i64 (n)] (kf20 _ _) rfl ((take_any2 hT P n hn (show k.size ≤ 3000 by omega) 0 0 0 2 ⟨k, 0, [dw A hA, dw B hB], Y⟩ u1.out hM).mono ?_))
  rintro e w25 ⟨rfl, h_⟩
  refine ⟨_, rfl, ?_⟩
  replace hM : Ms w w25 [vo p11 (⟨k, 0, [dw A hA, dw B hB], Y⟩), blk (w2.heap.size) (bc (B.data.toList)) 42, blk (w.heap.size) (bc (A.data.toList)) 42] := h_
  clear h_
  refine wl_fare kn ?_
  simp (config := { maxSteps := 10000000 }) (disch := omega) only [fx, pv, kx]
  refine wl_give rfl (g_alloc 23 (smc (0) (0) (0)) zeroSm fun w26 t_ b_ => ?_)
  replace hM := hM.new t_ b_
  clear t_ b_
  try simp only [nz]
  refine wl_give rfl (g_store_all 23 _ _ (w25.heap.size) (smc (0) (0) (0)) _ 23 rfl rfl (hM.get 0 rfl) (szSm _ _ _) (rfl) (one_smc _ _ _) fun w27 t_ b_ => ?_)
  replace hM : Ms w w27 [blk (w25.heap.size) (smc (0) (0) (0)) 23, vo p11 (⟨k, 0, [dw A hA, dw B hB], Y⟩), blk (w2.heap.size) (bc (B.data.toList)) 42, blk (w.heap.size) (bc (A.data.toList)) 42] := hM.put 0 rfl t_ b_
  clear t_ b_
  refine wl_fare kn ?_
  simp (disch := omega) only [fx, pv, kx]
  refine wl_nil (κ24 _ _ ?_)
  refine wp_seq_k fun _ κ28 => wl_region (wl_fare kn ?_)
  simp (config := { maxSteps := 10000000 }) (disch := omega) only [fx, pv, kx]
  refine wl_give rfl (g_call 20 _ _ [.pointer (some ⟨p11, 0, none⟩), .string (Q), .int .i64 (n)] (kf20 _ _) rfl ((take_any2 hT Q n hn (show k.size ≤ 3000 by omega) O D E 6 ⟨k, 0, [dw A hA, dw B hB], ⟨#[]⟩⟩ u2.out (show Ms w w27 [vo p11 (⟨k, 0, [dw A hA, dw B hB], Y⟩), blk (w25.heap.size) (smc (0) (0) (0)) 23, blk (w2.heap.size) (bc (B.data.toList)) 42, blk (w.heap.size) (bc (A.data.toList)) 42] from (hM.up 1 rfl))).mono ?_))
  rintro e w29 ⟨rfl, h_⟩
  refine ⟨_, rfl, ?_⟩
  replace hM : Ms w w29 [vo p11 (⟨k, 0, [dw A hA, dw B hB], ⟨#[]⟩⟩), blk (w25.heap.size) (smc (0) (0) (0)) 23, blk (w2.heap.size) (bc (B.data.toList)) 42, blk (w.heap.size) (bc (A.data.toList)) 42] := h_
  clear h_
  refine wl_fare kn ?_
  simp (config := { maxSteps := 10000000 }) (disch := omega) only [fx, pv, kx]
  refine wl_give rfl (g_alloc 23 (smc (0) (0) (0)) zeroSm fun w30 t_ b_ => ?_)
  replace hM := hM.new t_ b_
  clear t_ b_
  try simp only [nz]
  refine wl_give rfl (g_store_all 23 _ _ (w29.heap.size) (smc (O) (D) (E)) _ 23 rfl rfl (hM.get 0 rfl) (szSm _ _ _) (rfl) (one_smc _ _ _) fun w31 t_ b_ => ?_)
  replace hM : Ms w w31 [blk (w29.heap.size) (smc (O) (D) (E)) 23, vo p11 (⟨k, 0, [dw A hA, dw B hB], ⟨#[]⟩⟩), blk (w25.heap.size) (smc (0) (0) (0)) 23, blk (w2.heap.size) (bc (B.data.toList)) 42, blk (w.heap.size) (bc (A.data.toList)) 42] := hM.put 0 rfl t_ b_
  clear t_ b_
  refine wl_fare kn ?_
  simp (disch := omega) only [fx, pv, kx]
  refine wl_nil (κ28 _ _ ?_)
  refine wp_seq_k fun _ κ32 => wl_region (wl_fare kn ?_)
  simp (config := { maxSteps := 10000000 }) (disch := omega) only [fx, pv, kx]
  refine wl_give rfl (g_call 20 _ _ [.pointer (some ⟨p11, 0, none⟩), .string (Q), .int .i64 (n)] (kf20 _ _) rfl ((take_any2 hT Q n hn (show k.size ≤ 3000 by omega) 0 0 0 10 ⟨k, 0, [dw A hA, dw B hB], ⟨#[]⟩⟩ u3.out (show Ms w w31 [vo p11 (⟨k, 0, [dw A hA, dw B hB], ⟨#[]⟩⟩), blk (w29.heap.size) (smc (O) (D) (E)) 23, blk (w25.heap.size) (smc (0) (0) (0)) 23, blk (w2.heap.size) (bc (B.data.toList)) 42, blk (w.heap.size) (bc (A.data.toList)) 42] from (hM.up 1 rfl))).mono ?_))
  rintro e w33 ⟨rfl, h_⟩
  refine ⟨_, rfl, ?_⟩
  replace hM : Ms w w33 [vo p11 (⟨k, 0, [dw A hA, dw B hB], ⟨#[]⟩⟩), blk (w29.heap.size) (smc (O) (D) (E)) 23, blk (w25.heap.size) (smc (0) (0) (0)) 23, blk (w2.heap.size) (bc (B.data.toList)) 42, blk (w.heap.size) (bc (A.data.toList)) 42] := h_
  clear h_
  refine wl_fare kn ?_
  simp (config := { maxSteps := 10000000 }) (disch := omega) only [fx, pv, kx]
  refine wl_give rfl (g_alloc 23 (smc (0) (0) (0)) zeroSm fun w34 t_ b_ => ?_)
  replace hM := hM.new t_ b_
  clear t_ b_
  try simp only [nz]
  refine wl_give rfl (g_store_all 23 _ _ (w33.heap.size) (smc (0) (0) (0)) _ 23 rfl rfl (hM.get 0 rfl) (szSm _ _ _) (rfl) (one_smc _ _ _) fun w35 t_ b_ => ?_)
  replace hM : Ms w w35 [blk (w33.heap.size) (smc (0) (0) (0)) 23, vo p11 (⟨k, 0, [dw A hA, dw B hB], ⟨#[]⟩⟩), blk (w29.heap.size) (smc (O) (D) (E)) 23, blk (w25.heap.size) (smc (0) (0) (0)) 23, blk (w2.heap.size) (bc (B.data.toList)) 42, blk (w.heap.size) (bc (A.data.toList)) 42] := hM.put 0 rfl t_ b_
  clear t_ b_
  refine wl_fare kn ?_
  simp (disch := omega) only [fx, pv, kx]
  refine wl_nil (κ32 _ _ ?_)
  refine wp_seq_k fun _ κ36 => ?_
  (try simp only [List.append_eq, List.cons_append, List.nil_append])
  refine wl_text (C := fun wx => Ms w wx [blk (w33.heap.size) (smc (0) (0) (0)) 23, vo p11 (⟨k, 0, [dw A hA, dw B hB], ⟨#[]⟩⟩), blk (w29.heap.size) (smc (O) (D) (E)) 23, blk (w25.heap.size) (smc (0) (0) (0)) 23, blk (w2.heap.size) (bc (B.data.toList)) 42, blk (w.heap.size) (bc (A.data.toList)) 42]) (by kernel_rfl) [.int .i64 (0), .bool true, .bool true, .int .i64 (0), .bool true, .bool true, .bool true, .int .i64 (11), .bool true, .bool true, .bool true, .int .i64 (2), .bool true, .bool true, .bool true, .int .i64 (6), .bool false, .bool false, .int .i64 (6), .bool false, .bool false, .bool false, .int .i64 (6), .bool true, .bool true, .bool true, undef, undef, .bool true, .bool true, .bool true, .int .i64 (10), .bool true, .bool true, .bool true] (by rfl) hM (by simp only [fullL, Act.put, st_a, st_s, st_0]; exact ⟨mvL rfl rfl, fun _ hM => gw rfl (g_ieq 25 _ _ .i64 (0) (0) true rfl rfl (by decide) ⟨rfl, hM⟩), mvL rfl rfl, mvL rfl rfl, fun _ hM => gw rfl (g_ieq 25 _ _ .i64 (0) (0) true rfl rfl (by decide) ⟨rfl, hM⟩), ptL rfl rfl rfl, mvL rfl rfl, mvL rfl rfl, fun _ hM => gw rfl (g_ieq 25 _ _ .i64 (11) (11) true rfl rfl (by decide) ⟨rfl, hM⟩), ptL rfl rfl rfl, mvL rfl rfl, mvL rfl rfl, fun _ hM => gw rfl (g_ieq 25 _ _ .i64 (2) (2) true rfl rfl (by decide) ⟨rfl, hM⟩), ptL rfl rfl rfl, mvL rfl rfl, mvL rfl rfl, fun _ hM => gw rfl (g_ieq 25 _ _ .i64 (6) (0) false rfl rfl (by decide) ⟨rfl, hM⟩), mvL rfl rfl, mvL rfl rfl, fun _ hM => gw rfl (g_ieq 25 _ _ .i64 (6) (1) false rfl rfl (by decide) ⟨rfl, hM⟩), pfL rfl rfl rfl, mvL rfl rfl, mvL rfl rfl, fun _ hM => gw rfl (g_ieq 25 _ _ .i64 (6) (6) true rfl rfl (by decide) ⟨rfl, hM⟩), pfL rfl rfl rfl, mvL rfl rfl, skL rfl, skL rfl, ptL rfl rfl rfl, ptL rfl rfl rfl, mvL rfl rfl, mvL rfl rfl, fun _ hM => gw rfl (g_ieq 25 _ _ .i64 (10) (10) true rfl rfl (by decide) ⟨rfl, hM⟩), ptL rfl rfl rfl, asL rfl rfl, trivial⟩) ?_
  simp only [fullL, Act.put, st_a, st_s, st_0]
  intro w37 hM
  refine κ36 _ _ (wp_ret ?_)
  go_ret
  exact ⟨rfl, hM.below⟩
theorem tld_40 (a : ByteArray) (t2 t3 : Int) (k : ByteArray) (h : a.size = 24) : (anw k a t2 t3).extract 0 24 = a ∧ (anw k a t2 t3).extract 0 40 = tld a t2 t3 ∧ (anw k a t2 t3).extract 40 (anw k a t2 t3).size = fst k (tld a t2 t3) 16 := by
  refine ⟨?_, ?_, ?_⟩
  · unfold anw tld
    rw [show a ++ mb t2 ++ mb t3 ++ fst k (a ++ mb t2 ++ mb t3) 16 = a ++ (mb t2 ++ mb t3 ++ fst k (a ++ mb t2 ++ mb t3) 16) from ba_ext (by simp only [ba_app, List.append_assoc])]
    exact ext_pre a _ 24 h
  · unfold anw
    exact ext_pre _ _ 40 (tld_size h)
  · unfold anw
    exact ext_suf _ _ 40 (tld_size h)
theorem right_own (k m : ByteArray) : rgt k m (fst k m 16) = true := by
  unfold rgt
  have e : (fst k m 16).size = 16 := by rw [fst_size]; decide
  refine decide_eq_true ⟨by omega, ?_⟩
  rw [e]
  rfl
theorem vrd_err (t1 t2 t3 t4 r : Int) : (vrd t1 t2 t3 t4 r).2 = 0 ∨ (vrd t1 t2 t3 t4 r).2 = 1 ∨ (vrd t1 t2 t3 t4 r).2 = 3 ∨ (vrd t1 t2 t3 t4 r).2 = 6 := by
  unfold vrd
  split
  · exact .inr (.inl rfl)
  · split
    · exact .inr (.inr (.inr rfl))
    · split
      · exact .inr (.inr (.inl rfl))
      · exact .inl rfl
theorem walk_m (k A B : ByteArray) (n t2 t3 : Int) (w : World) (hT : Tabs w) (hA : A.size = 16) (hB : B.size = 16) (bn : Wd.In64 n) : Calls Tryd.prog 5 #[.string k, .agg (bc A.data.toList).toArray, .agg (bc B.data.toList).toArray, .int .i64 n, .int .i64 t2, .int .i64 t3] w fun e w' => e = .returned (.bool true) ∧ Below w.heap.size w w' := by
  by_cases h1 : (k.size : Int) < 1
  · exact walk_1 k A B n t2 t3 w hT hA hB h1
  by_cases h2 : 100 < (k.size : Int)
  · exact walk_2 k A B n t2 t3 w hT hA hB h1 h2
  by_cases h3 : A.data.toList = B.data.toList
  · exact walk_3 k A B n t2 t3 w hT hA hB h1 h2 h3
  have hk : k ≠ ⟨#[]⟩ := by
    rintro rfl
    exact h1 (by decide)
  have hne : dw A hA ≠ dw B hB := fun e => h3 (congrArg Subtype.val e)
  have sX : (A ++ mb n).size = 24 := by rw [ByteArray.size_append, mb_size, hA]
  have sY : (B ++ mb n).size = 24 := by rw [ByteArray.size_append, mb_size, hB]
  obtain ⟨X, hX⟩ : ∃ X, A ++ mb n = X := ⟨_, rfl⟩
  obtain ⟨Y, hY⟩ : ∃ Y, B ++ mb n = Y := ⟨_, rfl⟩
  rw [hX] at sX
  rw [hY] at sY
  have hXY : X ≠ Y := by
    intro e
    have e2 : (A ++ mb n).extract 0 16 = (B ++ mb n).extract 0 16 := by rw [hX, hY, e]
    rw [ext_pre A _ 16 hA, ext_pre B _ 16 hB] at e2
    exact h3 (by rw [e2])
  obtain ⟨x1, x2, x3⟩ := tld_40 X t2 t3 k sX
  obtain ⟨y1, y2, y3⟩ := tld_40 Y t2 t3 k sY
  have zP := anw_size (k := k) (t2 := t2) (t3 := t3) sX
  have zQ := anw_size (k := k) (t2 := t2) (t3 := t3) sY
  have nY : Y ≠ ⟨#[]⟩ := by
    rintro rfl
    exact absurd sY (by decide)
  have u1 : tk ⟨k, 0, [dw A hA, dw B hB], Y⟩ (anw k X t2 t3) n = (((0, 0, 0), 2), ⟨k, 0, [dw A hA, dw B hB], Y⟩) := by
    unfold tk
    rw [if_neg nY, if_neg (fun h => h zP), x1, if_pos hXY]
  have u2 : tk ⟨k, 0, [dw A hA, dw B hB], Y⟩ (anw k Y t2 t3) n = (tkv ⟨k, 0, [dw A hA, dw B hB], Y⟩ (anw k Y t2 t3) n, ⟨k, 0, [dw A hA, dw B hB], ⟨#[]⟩⟩) := by
    unfold tk
    rw [if_neg nY, if_neg (fun h => h zQ), y1, if_neg (fun h => h rfl), y2, y3, right_own, if_neg (by decide)]
  have u3 : tk ⟨k, 0, [dw A hA, dw B hB], ⟨#[]⟩⟩ (anw k Y t2 t3) n = (((0, 0, 0), 10), ⟨k, 0, [dw A hA, dw B hB], ⟨#[]⟩⟩) := by
    unfold tk
    rw [if_pos rfl]
  have hE := vrd_err (tm (pcs (U3 (anw k Y t2 t3)) 0)) (tm (pcs (U3 (anw k Y t2 t3)) 1)) (tm (pcs (U3 (anw k Y t2 t3)) 2)) n 0
  obtain ⟨⟨⟨O, D, E⟩, G⟩, hv⟩ : ∃ v, tkv ⟨k, 0, [dw A hA, dw B hB], Y⟩ (anw k Y t2 t3) n = v := ⟨_, rfl⟩
  have hG : (tkv ⟨k, 0, [dw A hA, dw B hB], Y⟩ (anw k Y t2 t3) n).2 = G := by rw [hv]
  rw [show (tkv ⟨k, 0, [dw A hA, dw B hB], Y⟩ (anw k Y t2 t3) n) = vrd (tm (pcs (U3 (anw k Y t2 t3)) 0)) (tm (pcs (U3 (anw k Y t2 t3)) 1)) (tm (pcs (U3 (anw k Y t2 t3)) 2)) n 0 from rfl] at hG
  rw [hG] at hE
  rw [hv] at u2
  have d2 : dw B hB ∉ [dw A hA] := fun h => hne (List.mem_singleton.1 h).symm
  have d3 : dw A hA ∈ [dw A hA, dw B hB] := List.mem_cons_self
  rcases hE with rfl | rfl | rfl | rfl
  · exact walk_10 k A B n t2 t3 w hT hA hB h1 h2 h3 hk List.not_mem_nil d2 d3 X Y _ _ ⟨hX⟩ ⟨hY⟩ ⟨sX⟩ ⟨sY⟩ ⟨rfl⟩ ⟨rfl⟩ bn ⟨u1⟩ O D E ⟨u2⟩ ⟨u3⟩
  · exact walk_11 k A B n t2 t3 w hT hA hB h1 h2 h3 hk List.not_mem_nil d2 d3 X Y _ _ ⟨hX⟩ ⟨hY⟩ ⟨sX⟩ ⟨sY⟩ ⟨rfl⟩ ⟨rfl⟩ bn ⟨u1⟩ O D E ⟨u2⟩ ⟨u3⟩
  · exact walk_13 k A B n t2 t3 w hT hA hB h1 h2 h3 hk List.not_mem_nil d2 d3 X Y _ _ ⟨hX⟩ ⟨hY⟩ ⟨sX⟩ ⟨sY⟩ ⟨rfl⟩ ⟨rfl⟩ bn ⟨u1⟩ O D E ⟨u2⟩ ⟨u3⟩
  · exact walk_16 k A B n t2 t3 w hT hA hB h1 h2 h3 hk List.not_mem_nil d2 d3 X Y _ _ ⟨hX⟩ ⟨hY⟩ ⟨sX⟩ ⟨sY⟩ ⟨rfl⟩ ⟨rfl⟩ bn ⟨u1⟩ O D E ⟨u2⟩ ⟨u3⟩
theorem walk (k : ByteArray) (a : List UInt8) (ha : a.length = 16) (b : List UInt8) (hb : b.length = 16) (n t2 t3 : Int) (w : World) (hT : Tabs w) (bn : -9223372036854775808 ≤ n ∧ n < 9223372036854775808) (b2 : -9223372036854775808 ≤ t2 ∧ t2 < 9223372036854775808) (b3 : -9223372036854775808 ≤ t3 ∧ t3 < 9223372036854775808) : Calls Tryd.prog 5 #[.string k, .agg (bc a).toArray, .agg (bc b).toArray, .int .i64 n, .int .i64 t2, .int .i64 t3] w fun e w' => e = .returned (.bool true) ∧ Below w.heap.size w w' :=
  walk_m k ⟨a.toArray⟩ ⟨b.toArray⟩ n t2 t3 w hT (by show a.toArray.size = 16; rw [List.size_toArray, ha]) (by show b.toArray.size = 16; rw [List.size_toArray, hb]) ⟨by omega, by omega⟩
end Go.Proofs.YtpenicjlpiechaaDoor.volleyOnce
