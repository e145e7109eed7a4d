/- The reference's less and whole; single operations of its Round. -/
import Derived.Test.YtpenicjlpiechaaDoorQRd3
import Derived.Test.YtpenicjlpiechaaDoorQRefCmp
import Derived.Test.YtpenicjlpiechaaDoorQVoMath
namespace Go.Proofs.YtpenicjlpiechaaDoor.Wd
set_option maxRecDepth 10000
open Go Go.RowKit
set_option linter.unusedVariables false
set_option linter.unusedSimpArgs false

set_option maxRecDepth 10000 in
set_option maxHeartbeats 8000000 in
theorem vless_l (a b s : Int) (w : World) (ha : In64 a) (hb : In64 b) (hs : Hid (a + -b = s)) (fa : Few a 200) (fb : Few b 200) (fnb : Few (-b) 200) :
    Calls Tryd.prog 32 #[.int .i64 a, .int .i64 b] w fun e w' => ∃ u, e = .returned u ∧ RN w' u s ∧ Below w.heap.size w w' := by
  go_enter Tryd.func32, Tryd.ntmps32
  go_wp2_with (first
    | ((with_reducible refine at_allocD 4 72 ?_); refine L_alloc 72 ([.bool false, .slice none 0 0]) zeroR ?_; intro w1 t_ b_r; have l_r : w.heap.size ≤ w.heap.size := Nat.le_refl _; have hB : Below w.heap.size w w1 := t_.below (Below.refl _ _) (Nat.le_refl _); clear t_))
  refine (rof_any a w1 ha).mono ?_
  rintro e w2 ⟨_, rfl, ⟨s_n6, v_n6, rfl, r_n6⟩, t_⟩
  replace b_r := b_r.below t_ b_r.lt
  replace hB := hB.trans (t_.mono hB.size)
  clear t_
  go_wp2_with fail
  refine (rof_any b w2 hb).mono ?_
  rintro e w3 ⟨_, rfl, ⟨s_n8, v_n8, rfl, r_n8⟩, t_⟩
  replace r_n6 := r_n6.below t_
  replace b_r := b_r.below t_ b_r.lt
  replace hB := hB.trans (t_.mono hB.size)
  clear t_
  go_wp2_with fail
  refine (less_any _ b w3 ⟨_, _, rfl, r_n8⟩ fb).mono ?_
  rintro e w4 ⟨_, rfl, ⟨s_n9, v_n9, rfl, r_n9⟩, t_⟩
  replace r_n6 := r_n6.below t_
  replace r_n8 := r_n8.below t_
  replace b_r := b_r.below t_ b_r.lt
  replace hB := hB.trans (t_.mono hB.size)
  clear t_
  go_wp2_with fail
  refine (radd_any _ _ a (-b) s w4 ⟨_, _, rfl, r_n6⟩ ⟨_, _, rfl, r_n9⟩ fa fnb hs).mono ?_
  rintro e w5 ⟨_, rfl, ⟨s_n10, v_n10, rfl, r_n10⟩, t_⟩
  replace r_n6 := r_n6.below t_
  replace r_n8 := r_n8.below t_
  replace r_n9 := r_n9.below t_
  replace b_r := b_r.below t_ b_r.lt
  replace hB := hB.trans (t_.mono hB.size)
  clear t_
  go_wp2_with (first
    | ((with_reducible refine at_storeX 4 72 ?_); refine L_store_all 72 _ _ (w.heap.size) ([.bool s_n10, v_n10]) _ 72 rfl rfl b_r (szR) (rfl) (one_rc _ _ r_n10.sl) ?_; have b0_r := b_r; clear b_r; intro w6 t_ b_r; replace r_n6 := r_n6.turn t_ b0_r (by decide); replace r_n8 := r_n8.turn t_ b0_r (by decide); replace r_n9 := r_n9.turn t_ b0_r (by decide); replace r_n10 := r_n10.turn t_ b0_r (by decide); replace hB := t_.below hB l_r; clear t_ b0_r))
  exact bodyPost_ret (results_blk rfl _ _ _ rfl b_r Tryd.underlying72 rfl szR) rfl ⟨_, rfl, ⟨_, _, rfl, r_n10⟩, hB⟩

theorem vless_any (a b s : Int) (w : World) (ha : In64 a) (hb : In64 b) (hs : Hid (a + -b = s)) :
    Calls Tryd.prog 32 #[.int .i64 a, .int .i64 b] w fun e w' => ∃ u, e = .returned u ∧ RN w' u s ∧ Below w.heap.size w w' := by
  have hb' := hb
  unfold In64 at hb'
  exact vless_l a b s w ha hb hs (few64 a ha) (few64 b hb) (few128 _ (by omega))
set_option maxRecDepth 10000 in
set_option maxHeartbeats 8000000 in
theorem vwhole_l (sa : Bool) (ba : Value) (z h l : Int) (w : World) (ra : RF w sa ba z) (iz : In128 z) (hh : Hid (z / 18446744073709551616 = h)) (hl : Hid (z % 18446744073709551616 = l)) (hw_ : Hid (IntKind.i64.wrap l = z)) :
    Calls Tryd.prog 39 #[.agg #[.bool sa, ba]] w fun e w' => e = .returned (.int .i64 z) ∧ Below w.heap.size w w' := by
  go_enter Tryd.func39, Tryd.ntmps39
  go_wp2_with (first
    | ((with_reducible refine at_boxD 1 72 ?_); refine L_box 72 _ ([.bool sa, ba]) rfl ?_; intro w1 t_ b_n; have l_n : w.heap.size ≤ w.heap.size := Nat.le_refl _; replace ra := ra.below t_.toBelow; have hB : Below w.heap.size w w1 := t_.below (Below.refl _ _) (Nat.le_refl _); clear t_)
    | ((with_reducible refine at_loadD 6 72 ?_); refine L_load_all 72 _ (w.heap.size) ([.bool sa, ba]) 72 _ rfl b_n Tryd.underlying72 rfl (szR) ?_))
  refine (wide_any _ z h l w1 ⟨_, _, rfl, ra⟩ iz hh hl).mono ?_
  rintro e w2 ⟨rfl, t_⟩
  replace ra := ra.below t_
  replace b_n := b_n.below t_ b_n.lt
  replace hB := hB.trans (t_.mono hB.size)
  clear t_
  go_wp2_with (first
    | ((with_reducible refine at_cnv 11 ?_); refine L_give (by rfl) (g_cv64 _ _ _ rfl hw_.out ?_)))
  go_ret
  exact ⟨rfl, hB⟩

theorem vwhole_any (u : Value) (z : Int) (w : World) (hu : RN w u z) (hz : In64 z) :
    Calls Tryd.prog 39 #[u] w fun e w' => e = .returned (.int .i64 z) ∧ Below w.heap.size w w' := by
  obtain ⟨sa, ba, rfl, ra⟩ := hu
  have hz' := hz
  unfold In64 at hz'
  exact vwhole_l sa ba z _ _ w ra hz.to rfl rfl (by show _ = _; rw [IntKind.wrap_i64]; omega)
section
variable {a : Act} {w : World} {dst : Option Tmp} {ty yt : TypeId} {pos : String} {aft : Array Edge} {gd : Option (Nat × Bool)} {K : Value → World → Prop}
theorem run_bs6 (w : World) (s0 : Bool) (v0 : Value) (s1 : Bool) (v1 : Value) (s2 : Bool) (v2 : Value) (s3 : Bool) (v3 : Value) (s4 : Bool) (v4 : Value) (s5 : Bool) (v5 : Value) (e0 : ∃ p n c, v0 = .slice p n c) (e1 : ∃ p n c, v1 = .slice p n c) (e2 : ∃ p n c, v2 = .slice p n c) (e3 : ∃ p n c, v3 = .slice p n c) (e4 : ∃ p n c, v4 = .slice p n c) (e5 : ∃ p n c, v5 = .slice p n c) : (Instr.buildSlice 79 6 #[(0, .agg #[.bool s0, v0]), (1, .agg #[.bool s1, v1]), (2, .agg #[.bool s2, v2]), (3, .agg #[.bool s3, v3]), (4, .agg #[.bool s4, v4]), (5, .agg #[.bool s5, v5])]).run Tryd.prog w = .ok (.slice (some ⟨w.heap.size, 0, none⟩) 6 6) (w.alloc (.cells #[.bool s0, v0, .bool s1, v1, .bool s2, v2, .bool s3, v3, .bool s4, v4, .bool s5, v5] 72)) := by
  obtain ⟨p0, n0, c0, rfl⟩ := e0
  obtain ⟨p1, n1, c1, rfl⟩ := e1
  obtain ⟨p2, n2, c2, rfl⟩ := e2
  obtain ⟨p3, n3, c3, rfl⟩ := e3
  obtain ⟨p4, n4, c4, rfl⟩ := e4
  obtain ⟨p5, n5, c5, rfl⟩ := e5
  go_simp
theorem g_bs6 (x0 : Operand) (x1 : Operand) (x2 : Operand) (x3 : Operand) (x4 : Operand) (x5 : Operand) (s0 : Bool) (v0 : Value) (s1 : Bool) (v1 : Value) (s2 : Bool) (v2 : Value) (s3 : Bool) (v3 : Value) (s4 : Bool) (v4 : Value) (s5 : Bool) (v5 : Value) (e0 : ∃ p n c, v0 = .slice p n c) (e1 : ∃ p n c, v1 = .slice p n c) (e2 : ∃ p n c, v2 = .slice p n c) (e3 : ∃ p n c, v3 = .slice p n c) (e4 : ∃ p n c, v4 = .slice p n c) (e5 : ∃ p n c, v5 = .slice p n c) (h0 : a.eval x0 = .agg #[.bool s0, v0]) (h1 : a.eval x1 = .agg #[.bool s1, v1]) (h2 : a.eval x2 = .agg #[.bool s2, v2]) (h3 : a.eval x3 = .agg #[.bool s3, v3]) (h4 : a.eval x4 = .agg #[.bool s4, v4]) (h5 : a.eval x5 = .agg #[.bool s5, v5]) (h : ∀ w', Turn w.heap.size w w' → Blk w' w.heap.size [.bool s0, v0, .bool s1, v1, .bool s2, v2, .bool s3, v3, .bool s4, v4, .bool s5, v5] 72 → K (.slice (some ⟨w.heap.size, 0, none⟩) 6 6) w') : gives Tryd.prog ⟨dst, .buildSlice 79 6 #[(0, x0), (1, x1), (2, x2), (3, x3), (4, x4), (5, x5)], ty, pos, aft, gd⟩ a w K := by
  obtain ⟨t2_, t3_⟩ := turn_alloc w [.bool s0, v0, .bool s1, v1, .bool s2, v2, .bool s3, v3, .bool s4, v4, .bool s5, v5] 72
  refine g_val _ _ ?_ (h _ t2_ t3_)
  simp only [execOp, List.map_toArray, List.map_cons, List.map_nil, h0, h1, h2, h3, h4, h5, Sem.run_bind, run_bs6 w s0 v0 s1 v1 s2 v2 s3 v3 s4 v4 s5 v5 e0 e1 e2 e3 e4 e5 , Result.andThen_ok, Sem.run_pure]
end
theorem v_arg (t1 t2 t3 t4 r : Int) (h : ¬ rOk t1 t2 t3 t4 r) : vrd t1 t2 t3 t4 r = ((0, 0, 0), 1) := by
  unfold vrd
  rw [if_pos h]
theorem v_over (t1 t2 t3 t4 r A B X Y : Int) (h : rOk t1 t2 t3 t4 r) (hA : Hid (t4 + -t1 = A)) (hB : Hid (t3 + -t2 = B)) (hX : Hid (t2 + -t1 = X)) (hY : Hid (t3 + -t4 = Y)) (hn : ¬ (In64 A ∧ In64 B ∧ In64 X ∧ In64 Y)) : vrd t1 t2 t3 t4 r = ((0, 0, 0), 6) := by
  have hA := hA.out
  have hB := hB.out
  have hX := hX.out
  have hY := hY.out
  unfold In64 at hn
  unfold vrd Go.Proofs.YtpenicjlpiechaaDoor.In64
  rw [if_neg (fun n => n h), if_pos (by omega)]
theorem v_range (t1 t2 t3 t4 r A B X Y : Int) (h : rOk t1 t2 t3 t4 r) (hA : Hid (t4 + -t1 = A)) (hB : Hid (t3 + -t2 = B)) (hX : Hid (t2 + -t1 = X)) (hY : Hid (t3 + -t4 = Y)) (hn : In64 A ∧ In64 B ∧ In64 X ∧ In64 Y) (hd : A + -B < 0) : vrd t1 t2 t3 t4 r = ((0, 0, 0), 3) := by
  have hA := hA.out
  have hB := hB.out
  have hX := hX.out
  have hY := hY.out
  unfold In64 at hn
  unfold vrd Go.Proofs.YtpenicjlpiechaaDoor.In64
  rw [if_neg (fun n => n h), if_neg (by omega), if_pos (by omega)]
theorem v_ok (t1 t2 t3 t4 r A B X Y G : Int) (h : rOk t1 t2 t3 t4 r) (hA : Hid (t4 + -t1 = A)) (hB : Hid (t3 + -t2 = B)) (hX : Hid (t2 + -t1 = X)) (hY : Hid (t3 + -t4 = Y)) (hn : In64 A ∧ In64 B ∧ In64 X ∧ In64 Y) (hd : ¬ A + -B < 0) (hG : (A * (2 * r) + 999999999) / 1000000000 = G) : vrd t1 t2 t3 t4 r = (((X + Y) / 2, A + -B, (A + -B + 1) / 2 + (G + 2)), 0) := by
  have hA := hA.out
  have hB := hB.out
  have hX := hX.out
  have hY := hY.out
  unfold In64 at hn
  unfold vrd Go.Proofs.YtpenicjlpiechaaDoor.In64
  rw [if_neg (fun n => n h), if_neg (by omega), if_neg (by omega), show t2 - t1 + (t3 - t4) = X + Y by omega, show t4 - t1 - (t3 - t2) = A + -B by omega, show t4 - t1 = A by omega, hG]
  simp only [Prod.mk.injEq, true_and, and_true]
  omega
theorem in_D (t1 t2 t3 t4 r A B X Y D : Int) (hA : Hid (t4 + -t1 = A)) (hB : Hid (t3 + -t2 = B)) (hX : Hid (t2 + -t1 = X)) (hY : Hid (t3 + -t4 = Y)) (h : rOk t1 t2 t3 t4 r) (iA : In64 A) (iB : In64 B) (hD : Hid (A + -B = D)) : In64 D := by
  have hA := hA.out
  have hB := hB.out
  have hD := hD.out
  unfold In64 at *
  have h1 := h.2.1
  have h2 := h.2.2
  omega
theorem in_O (X Y S : Int) (iX : In64 X) (iY : In64 Y) (hS : Hid (X + Y = S)) : In64 (S / 2) := by
  have hS := hS.out
  unfold In64 at *
  omega
/-- Since a world. -/
def BL (w0 w : World) : Prop := Below w0.heap.size w0 w
theorem BL.below {w0 w w' : World} (h : BL w0 w) (t : Below w.heap.size w w') : BL w0 w' := Below.trans h (t.mono (Below.size h))
structure Vn (A B D D1 S M r G G2 W : Int) : Prop where
  hG : Hid (grw A M = (G, 0))
  iG : In64 G
  hG2 : Hid (G + 2 = G2)
  hW : Hid (D1 / 2 + G2 = W)
  iW : In64 W
  iM : In64 M
  hv : (A * (2 * r) + 999999999) / 1000000000 = G
theorem v_nums (t1 t2 t3 t4 r A B D D1 S M : Int) (h : rOk t1 t2 t3 t4 r) (hA : Hid (t4 + -t1 = A)) (hB : Hid (t3 + -t2 = B)) (hD : Hid (A + -B = D)) (hD1 : Hid (D + 1 = D1)) (hM : Hid (IntKind.i64.wrap (2 * r) = M)) (iA : In64 A) (iB : In64 B) : ∃ G G2 W, Vn A B D D1 S M r G G2 W := by
  have hA := hA.out
  have hB := hB.out
  have hD := hD.out
  have hD1 := hD1.out
  have hM := hM.out
  obtain ⟨⟨r0, r1⟩, h1, h2⟩ := h
  unfold In64 at *
  rw [IntKind.wrap_i64] at hM
  have eM : 2 * r = M := by omega
  have hp : A * M ≤ A * 200000000 := Int.mul_le_mul_of_nonneg_left (by omega) (by omega)
  have hq : 0 ≤ A * M := Int.mul_nonneg (by omega) (by omega)
  obtain ⟨P, hP⟩ : ∃ P, A * M = P := ⟨_, rfl⟩
  obtain ⟨G, hG⟩ : ∃ G, (P + 999999999) / 1000000000 = G := ⟨_, rfl⟩
  rw [hP] at hp hq
  refine ⟨G, G + 2, D1 / 2 + (G + 2), ?_, ?_, rfl, rfl, ?_, ?_, ?_⟩
  · show grw A M = (G, 0)
    unfold grw
    rw [if_neg (by omega), hP, hG, wh_in]
    unfold In64
    omega
  · unfold In64; omega
  · unfold In64; omega
  · unfold In64; omega
  · rw [eM, hP, hG]
end Go.Proofs.YtpenicjlpiechaaDoor.Wd
