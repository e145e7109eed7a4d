/- The calls that each statement of the layer asks first, and what they answer. -/
import Derived.Test.YteieacamokoejaaRf4
namespace Go.Proofs.Yteieacamokoejaa
open Go Go.RowKit
set_option linter.unusedVariables false
set_option linter.unusedSimpArgs false

theorem hread_s (s : ByteArray) (G : Hd) (l : List (Int × ByteArray)) (E : Int) (w : World) (hs2 : s.size ≤ 140737488355328) (h : Hid (rdp s = (G, l, E))) : Calls Try.prog 19 #[.string s] w fun e w' => ∃ ao cap, e = .returned (.tuple #[.agg (hc G).toArray, .slice ao l.length cap, .int .i64 E]) ∧ Fis w' (.slice ao l.length cap) l ∧ Below w.heap.size w w' := by
  refine (hread_any s G l E w hs2 h).mono ?_
  rintro e w' ⟨v, rfl, hf, hb⟩
  have hk := hf
  obtain ⟨ao, cap, rfl, _⟩ := hf
  exact ⟨ao, cap, rfl, hk, hb⟩
theorem rhread_s (s : ByteArray) (G : Hd) (l : List (Int × ByteArray)) (E : Int) (w : World) (hs2 : s.size ≤ 140737488355328) (h : Hid (rdp s = (G, l, E))) : Calls Try.prog 20 #[.string s] w fun e w' => ∃ ao cap, e = .returned (.tuple #[.agg (hc G).toArray, .slice ao l.length cap, .int .i64 E]) ∧ Fis w' (.slice ao l.length cap) l ∧ Below w.heap.size w w' := by
  refine (rhread_any s G l E w hs2 h).mono ?_
  rintro e w' ⟨v, rfl, hf, hb⟩
  have hk := hf
  obtain ⟨ao, cap, rfl, _⟩ := hf
  exact ⟨ao, cap, rfl, hk, hb⟩
theorem fis_blk {w : World} {p cap : Nat} (l : List (Int × ByteArray)) (h : Blk w p (l.flatMap fc) 48) : Fis w (.slice (some ⟨p, 0, none⟩) l.length cap) l :=
  ⟨_, _, rfl, fun j hj => ⟨p, 0, rfl, by rw [Nat.zero_add]; exact h.cell _ _ (flat_at l j hj).1, by rw [Nat.zero_add]; exact h.cell _ _ (flat_at l j hj).2⟩⟩
theorem run_bsl2 (w : World) (f g : Int × ByteArray) : (Instr.buildSlice 35 2 #[(0, .agg (fc f).toArray), (1, .agg (fc g).toArray)]).run Try.prog w = .ok (.slice (some ⟨w.heap.size, 0, none⟩) 2 2) (w.alloc (.cells (([f, g].flatMap fc)).toArray 48)) := by
  simp only [List.flatMap_cons, List.flatMap_nil, fc, List.cons_append, List.nil_append]
  go_simp
section
variable {P : Program} {ops : Array Oper} {rest : List Oper} {a : Act} {w : World} {Q : Exit → Act → World → Prop} {dst : Option Tmp} {ty yt : TypeId} {pos : String} {aft : Array Edge} {gd : Option (Nat × Bool)} {K : Value → World → Prop}
theorem g_bsl2 (x y : Operand) (f g : Int × ByteArray) (hx : a.eval x = .agg (fc f).toArray) (hy : a.eval y = .agg (fc g).toArray) (hk : ∀ w', Turn w.heap.size w w' → Blk w' w.heap.size ([f, g].flatMap fc) 48 → K (.slice (some ⟨w.heap.size, 0, none⟩) 2 2) w') : gives Try.prog ⟨dst, .buildSlice 35 2 #[(0, x), (1, y)], ty, pos, aft, gd⟩ a w K := by
  obtain ⟨h1, h2⟩ := turn_alloc w ([f, g].flatMap fc) 48
  unfold gives
  simp only [execOp, List.map_toArray, List.map_cons, List.map_nil, hx, hy, Sem.run_bind, run_bsl2, Result.andThen_ok, Sem.run_pure]
  exact hk _ h1 h2
theorem g_bldA (hk : K (.agg (hc ⟨0, 4, 5, 0, -6, 0, 0, 0, 0, 0, 0, 0, 1⟩).toArray) w) : gives Try.prog ⟨dst, .build 26 #[(1, .const (.int .i64 4)), (2, .const (.int .i64 5)), (4, .const (.int .i64 (-6))), (12, .const (.int .u64 1))], ty, pos, aft, gd⟩ a w K :=
  g_val (.agg (hc ⟨0, 4, 5, 0, -6, 0, 0, 0, 0, 0, 0, 0, 1⟩).toArray) w (by simp only [execOp, List.map_toArray, List.map_cons, List.map_nil]; go_simp; rfl) hk
theorem g_bldF7 (hk : K (.agg (fc (7, ByteArray.empty)).toArray) w) : gives Try.prog ⟨dst, .build 48 #[(0, .const (.int .i64 7))], ty, pos, aft, gd⟩ a w K :=
  g_val (.agg (fc (7, ByteArray.empty)).toArray) w (by simp only [execOp, List.map_toArray, List.map_cons, List.map_nil]; go_simp; rfl) hk
end
set_option maxRecDepth 10000 in
set_option maxHeartbeats 4000000 in
theorem awake_w (hA : Hd) (f1 f2 : Int × ByteArray) (S W W2 : ByteArray) (w : World) (hAE : Hid ((⟨0, 4, 5, 0, -6, 0, 0, 0, 0, 0, 0, 0, 1⟩ : Hd) = hA)) (f1E : Hid (((258, ⟨#[97, 98, 99, 100, 101]⟩) : Int × ByteArray) = f1)) (f2E : Hid (((7, ByteArray.empty) : Int × ByteArray) = f2)) (hi : InH hA) (hiz : InH hz) (hS : Hid (pt hA = (S, 0))) (hT : Hid (tk S = (hA, 0))) (hTx : Hid (tk ⟨#[120]⟩ = (hz, 5))) (hPz : Hid (pt hz = (ByteArray.empty, 2))) (hW : Hid (wr hA [f1, f2] = (W, 0)))
    (zS : S.size = 48) (s0 : S.data.toList[0]? = some 37) (s2 : S.data.toList[2]? = some 250) (s47 : S.data.toList[47]? = some 1) (zW : W.size = 64) (hC : Hid (W.extract 48 W.size = ⟨#[1, 2, 0, 9, 97, 98, 99, 100, 101, 0, 0, 0, 0, 7, 0, 4]⟩)) (hR : Hid (rdp W = (hA, [f1, f2], 0))) (hW2 : Hid (W ++ ⟨#[120]⟩ = W2)) (zW2 : W2.size = 65) (hR2 : Hid (rdp W2 = (hz, [], 2))) (hF7 : Hid (fnd [f1, f2] 7 = (ByteArray.empty, true))) (hF8 : Hid (fnd [f1, f2] 8 = (ByteArray.empty, false))) (hM : Hid (may hA = true)) : Calls Try.prog 11 #[] w fun e w' => e = .returned (.bool true) ∧ Below w.heap.size w w' := by
  have hn2 : Hid ([f1, f2].length ≤ 140737488355328) := by show 2 ≤ 140737488355328; omega
  go_enter Try.func11, Try.ntmps11
  (try simp only [List.append_eq, List.cons_append, List.nil_append])
  go_wp2_with (first
    | ((with_reducible refine at_bld 23 ?_); refine L_give (by rfl) (g_bldA ?_); rw [hAE.out]; (try simp only [Act.put, List.setIfInBounds_toArray, List.set_cons_zero, List.set_cons_succ]))
    | ((with_reducible refine at_allocD 1 26 ?_); refine L_alloc 26 (hc (hz)) zeroH ?_; intro w1 t_ b_h; have l_hB_h : w.heap.size ≤ w.heap.size := Nat.le_refl _; have hB : Below w.heap.size w w1 := t_.below (Below.refl _ _) (Nat.le_refl _); clear t_; (try simp only [Act.put, List.setIfInBounds_toArray, List.set_cons_zero, List.set_cons_succ]))
    | ((with_reducible refine at_storeX 1 26 ?_); refine L_store_all 26 _ _ (w.heap.size) (hc (hA)) _ 26 rfl rfl b_h (szH hz) rfl (one_hc _) ?_; clear b_h; intro w2 t_ b_h; replace hB := t_.below hB l_hB_h; clear t_)
    | ((with_reducible refine at_loadD 25 26 ?_); refine L_give (by rfl) (g_load_all 26 _ (w.heap.size) (hc (hA)) 26 _ rfl (b_h) Try.underlying26 rfl (szH hz) ?_); (try simp only [Act.put, List.setIfInBounds_toArray, List.set_cons_zero, List.set_cons_succ]))
    | ((with_reducible refine at_callD 26 ?_); refine L_give (by rfl) (g_call 12 _ _ [.agg (hc (hA)).toArray] (kf12 _ _) rfl ((hput_any hA S 0 w2 hi hS).mono ?_)); rintro e w3 ⟨rfl, t_⟩; refine ⟨_, rfl, ?_⟩; replace b_h := b_h.below t_ b_h.lt; replace hB := hB.trans (t_.mono hB.size); clear t_; (try simp only [Act.put, List.setIfInBounds_toArray, List.set_cons_zero, List.set_cons_succ]))
    | ((with_reducible refine at_callD 31 ?_); refine L_give (by rfl) (g_call 14 _ _ [.string (S)] (kf14 _ _) rfl ((htake_any S hA 0 w3 hT).mono ?_)); rintro e w4 ⟨rfl, t_⟩; refine ⟨_, rfl, ?_⟩; replace b_h := b_h.below t_ b_h.lt; replace hB := hB.trans (t_.mono hB.size); clear t_; (try simp only [Act.put, List.setIfInBounds_toArray, List.set_cons_zero, List.set_cons_succ]))
    | ((with_reducible refine at_allocD 4 26 ?_); refine L_alloc 26 (hc (hz)) zeroH ?_; intro w5 t_ b_g; have o_h_g := b_h.lt; have l_hB_g : _ ≤ w4.heap.size := hB.size; replace b_h := t_.blk b_h (Nat.ne_of_lt b_h.lt); replace hB := t_.below hB l_hB_g; clear t_; (try simp only [Act.put, List.setIfInBounds_toArray, List.set_cons_zero, List.set_cons_succ]))
    | ((with_reducible refine at_storeX 4 26 ?_); refine L_store_all 26 _ _ (w4.heap.size) (hc (hA)) _ 26 rfl rfl b_g (szH hz) rfl (one_hc _) ?_; clear b_g; intro w6 t_ b_g; replace b_h := t_.blk b_h (Nat.ne_of_lt o_h_g); replace hB := t_.below hB l_hB_g; clear t_)
    | ((with_reducible refine at_callD 35 ?_); refine L_give (by rfl) (g_call 14 _ _ [.string (⟨#[120]⟩)] (kf14 _ _) rfl ((htake_any ⟨#[120]⟩ hz 5 w6 hTx).mono ?_)); rintro e w7 ⟨rfl, t_⟩; refine ⟨_, rfl, ?_⟩; replace b_h := b_h.below t_ b_h.lt; replace b_g := b_g.below t_ b_g.lt; replace hB := hB.trans (t_.mono hB.size); clear t_; (try simp only [Act.put, List.setIfInBounds_toArray, List.set_cons_zero, List.set_cons_succ]))
    | ((with_reducible refine at_allocD 6 26 ?_); refine L_alloc 26 (hc (hz)) zeroH ?_; intro w8 t_ b_y; have o_h_y := b_h.lt; have o_g_y := b_g.lt; have l_hB_y : _ ≤ w7.heap.size := hB.size; replace b_h := t_.blk b_h (Nat.ne_of_lt b_h.lt); replace b_g := t_.blk b_g (Nat.ne_of_lt b_g.lt); replace hB := t_.below hB l_hB_y; clear t_; (try simp only [Act.put, List.setIfInBounds_toArray, List.set_cons_zero, List.set_cons_succ]))
    | ((with_reducible refine at_storeX 6 26 ?_); refine L_store_all 26 _ _ (w7.heap.size) (hc (hz)) _ 26 rfl rfl b_y (szH hz) rfl (one_hc _) ?_; clear b_y; intro w9 t_ b_y; replace b_h := t_.blk b_h (Nat.ne_of_lt o_h_y); replace b_g := t_.blk b_g (Nat.ne_of_lt o_g_y); replace hB := t_.below hB l_hB_y; clear t_)
    | ((with_reducible refine at_bld 39 ?_); refine L_give (by rfl) (g_bldH0 ?_); (try simp only [Act.put, List.setIfInBounds_toArray, List.set_cons_zero, List.set_cons_succ]))
    | ((with_reducible refine at_callD 40 ?_); refine L_give (by rfl) (g_call 12 _ _ [.agg (hc (hz)).toArray] (kf12 _ _) rfl ((hput_any hz ByteArray.empty 2 w9 hiz hPz).mono ?_)); rintro e w10 ⟨rfl, t_⟩; refine ⟨_, rfl, ?_⟩; replace b_h := b_h.below t_ b_h.lt; replace b_g := b_g.below t_ b_g.lt; replace b_y := b_y.below t_ b_y.lt; replace hB := hB.trans (t_.mono hB.size); clear t_; (try simp only [Act.put, List.setIfInBounds_toArray, List.set_cons_zero, List.set_cons_succ]))
    | ((with_reducible refine at_bld 43 ?_); refine L_give (by rfl) (g_bldF _ _ (258, ⟨#[97, 98, 99, 100, 101]⟩) rfl rfl ?_); rw [f1E.out]; (try simp only [Act.put, List.setIfInBounds_toArray, List.set_cons_zero, List.set_cons_succ]))
    | ((with_reducible refine at_bld 44 ?_); refine L_give (by rfl) (g_bldF7 ?_); rw [f2E.out]; (try simp only [Act.put, List.setIfInBounds_toArray, List.set_cons_zero, List.set_cons_succ]))
    | ((with_reducible refine at_bslD 45 ?_); refine L_give (by rfl) (g_bsl2 _ _ f1 f2 rfl rfl ?_); intro w11 t_ b_l; have o_h_l := b_h.lt; have o_g_l := b_g.lt; have o_y_l := b_y.lt; have l_hB_l : _ ≤ w10.heap.size := hB.size; replace b_h := t_.blk b_h (Nat.ne_of_lt b_h.lt); replace b_g := t_.blk b_g (Nat.ne_of_lt b_g.lt); replace b_y := t_.blk b_y (Nat.ne_of_lt b_y.lt); replace hB := t_.below hB l_hB_l; clear t_; (try simp only [Act.put, List.setIfInBounds_toArray, List.set_cons_zero, List.set_cons_succ]))
    | ((with_reducible refine at_loadD 47 26 ?_); refine L_give (by rfl) (g_load_all 26 _ (w.heap.size) (hc (hA)) 26 _ rfl (b_h) Try.underlying26 rfl (szH hz) ?_); (try simp only [Act.put, List.setIfInBounds_toArray, List.set_cons_zero, List.set_cons_succ]))
    | ((with_reducible refine at_callD 49 ?_); refine L_give (by rfl) (g_call 21 _ _ [.agg (hc (hA)).toArray, .slice (some ⟨w10.heap.size, 0, none⟩) 2 2] (kf21 _ _) rfl ((hwrite_any hA [f1, f2] _ 2 w11 hi hn2.out (fis_blk [f1, f2] b_l) W 0 hW).mono ?_)); rintro e w12 ⟨rfl, t_⟩; refine ⟨_, rfl, ?_⟩; replace b_h := b_h.below t_ b_h.lt; replace b_g := b_g.below t_ b_g.lt; replace b_y := b_y.below t_ b_y.lt; replace b_l := b_l.below t_ b_l.lt; replace hB := hB.trans (t_.mono hB.size); clear t_; (try simp only [Act.put, List.setIfInBounds_toArray, List.set_cons_zero, List.set_cons_succ]))
    | ((with_reducible refine at_callD 54 ?_); refine L_give (by rfl) (g_call 19 _ _ [.string (W)] (kf19 _ _) rfl ((hread_s W hA [f1, f2] 0 w12 (by omega) hR).mono ?_)); rintro e w13 ⟨ao1, cap1, rfl, p_m, t_⟩; refine ⟨_, rfl, ?_⟩; replace b_h := b_h.below t_ b_h.lt; replace b_g := b_g.below t_ b_g.lt; replace b_y := b_y.below t_ b_y.lt; replace b_l := b_l.below t_ b_l.lt; replace hB := hB.trans (t_.mono hB.size); clear t_; have hA1 : Below w13.heap.size w13 w13 := Below.refl _ _; (try simp only [Act.put, List.setIfInBounds_toArray, List.set_cons_zero, List.set_cons_succ]))
    | ((with_reducible refine at_allocD 13 26 ?_); refine L_alloc 26 (hc (hz)) zeroH ?_; intro w14 t_ b_x; have o_h_x := b_h.lt; have o_g_x := b_g.lt; have o_y_x := b_y.lt; have o_l_x := b_l.lt; have l_hB_x : _ ≤ w13.heap.size := hB.size; have l_hA1_x : _ ≤ w13.heap.size := hA1.size; replace b_h := t_.blk b_h (Nat.ne_of_lt b_h.lt); replace b_g := t_.blk b_g (Nat.ne_of_lt b_g.lt); replace b_y := t_.blk b_y (Nat.ne_of_lt b_y.lt); replace b_l := t_.blk b_l (Nat.ne_of_lt b_l.lt); replace hB := t_.below hB l_hB_x; replace hA1 := t_.below hA1 l_hA1_x; clear t_; (try simp only [Act.put, List.setIfInBounds_toArray, List.set_cons_zero, List.set_cons_succ]))
    | ((with_reducible refine at_storeX 13 26 ?_); refine L_store_all 26 _ _ (w13.heap.size) (hc (hA)) _ 26 rfl rfl b_x (szH hz) rfl (one_hc _) ?_; clear b_x; intro w15 t_ b_x; replace b_h := t_.blk b_h (Nat.ne_of_lt o_h_x); replace b_g := t_.blk b_g (Nat.ne_of_lt o_g_x); replace b_y := t_.blk b_y (Nat.ne_of_lt o_y_x); replace b_l := t_.blk b_l (Nat.ne_of_lt o_l_x); replace hB := t_.below hB l_hB_x; replace hA1 := t_.below hA1 l_hA1_x; clear t_)
    | ((with_reducible refine at_binD 60 ?_); refine L_give (by rfl) (g_sadd 9 _ _ W ⟨#[120]⟩ W2 rfl rfl hW2.out (by have : (⟨#[120]⟩ : ByteArray).size = 1 := rfl; omega) ?_); (try simp only [Act.put, List.setIfInBounds_toArray, List.set_cons_zero, List.set_cons_succ]))
    | ((with_reducible refine at_callD 61 ?_); refine L_give (by rfl) (g_call 19 _ _ [.string (W2)] (kf19 _ _) rfl ((hread_s W2 hz [] 2 w15 (by omega) hR2).mono ?_)); rintro e w16 ⟨ao2, cap2, rfl, p_n, t_⟩; refine ⟨_, rfl, ?_⟩; replace b_h := b_h.below t_ b_h.lt; replace b_g := b_g.below t_ b_g.lt; replace b_y := b_y.below t_ b_y.lt; replace b_l := b_l.below t_ b_l.lt; replace b_x := b_x.below t_ b_x.lt; replace hB := hB.trans (t_.mono hB.size); replace hA1 := hA1.trans (t_.mono hA1.size); clear t_; have hA2 : Below w16.heap.size w16 w16 := Below.refl _ _; (try simp only [Act.put, List.setIfInBounds_toArray, List.set_cons_zero, List.set_cons_succ]))
    | ((with_reducible refine at_allocD 16 26 ?_); refine L_alloc 26 (hc (hz)) zeroH ?_; intro w17 t_ b_z; have o_h_z := b_h.lt; have o_g_z := b_g.lt; have o_y_z := b_y.lt; have o_l_z := b_l.lt; have o_x_z := b_x.lt; have l_hB_z : _ ≤ w16.heap.size := hB.size; have l_hA1_z : _ ≤ w16.heap.size := hA1.size; have l_hA2_z : _ ≤ w16.heap.size := hA2.size; replace b_h := t_.blk b_h (Nat.ne_of_lt b_h.lt); replace b_g := t_.blk b_g (Nat.ne_of_lt b_g.lt); replace b_y := t_.blk b_y (Nat.ne_of_lt b_y.lt); replace b_l := t_.blk b_l (Nat.ne_of_lt b_l.lt); replace b_x := t_.blk b_x (Nat.ne_of_lt b_x.lt); replace hB := t_.below hB l_hB_z; replace hA1 := t_.below hA1 l_hA1_z; replace hA2 := t_.below hA2 l_hA2_z; clear t_; (try simp only [Act.put, List.setIfInBounds_toArray, List.set_cons_zero, List.set_cons_succ]))
    | ((with_reducible refine at_storeX 16 26 ?_); refine L_store_all 26 _ _ (w16.heap.size) (hc (hz)) _ 26 rfl rfl b_z (szH hz) rfl (one_hc _) ?_; clear b_z; intro w18 t_ b_z; replace b_h := t_.blk b_h (Nat.ne_of_lt o_h_z); replace b_g := t_.blk b_g (Nat.ne_of_lt o_g_z); replace b_y := t_.blk b_y (Nat.ne_of_lt o_y_z); replace b_l := t_.blk b_l (Nat.ne_of_lt o_l_z); replace b_x := t_.blk b_x (Nat.ne_of_lt o_x_z); replace hB := t_.below hB l_hB_z; replace hA1 := t_.below hA1 l_hA1_z; replace hA2 := t_.below hA2 l_hA2_z; clear t_)
    | ((with_reducible refine at_callD 67 ?_); refine L_give (by rfl) (g_call 24 _ _ [.slice ao1 [f1, f2].length cap1, .int .i64 (7)] (kf24 _ _) rfl ((hfind_any [f1, f2] 7 ByteArray.empty true ao1 cap1 w18 hn2.out (p_m.below hA1) hF7).mono ?_)); rintro e w19 ⟨rfl, t_⟩; refine ⟨_, rfl, ?_⟩; replace b_h := b_h.below t_ b_h.lt; replace b_g := b_g.below t_ b_g.lt; replace b_y := b_y.below t_ b_y.lt; replace b_l := b_l.below t_ b_l.lt; replace b_x := b_x.below t_ b_x.lt; replace b_z := b_z.below t_ b_z.lt; replace hB := hB.trans (t_.mono hB.size); replace hA1 := hA1.trans (t_.mono hA1.size); replace hA2 := hA2.trans (t_.mono hA2.size); clear t_; (try simp only [Act.put, List.setIfInBounds_toArray, List.set_cons_zero, List.set_cons_succ]))
    | ((with_reducible refine at_callD 72 ?_); refine L_give (by rfl) (g_call 24 _ _ [.slice ao1 [f1, f2].length cap1, .int .i64 (8)] (kf24 _ _) rfl ((hfind_any [f1, f2] 8 ByteArray.empty false ao1 cap1 w19 hn2.out (p_m.below hA1) hF8).mono ?_)); rintro e w20 ⟨rfl, t_⟩; refine ⟨_, rfl, ?_⟩; replace b_h := b_h.below t_ b_h.lt; replace b_g := b_g.below t_ b_g.lt; replace b_y := b_y.below t_ b_y.lt; replace b_l := b_l.below t_ b_l.lt; replace b_x := b_x.below t_ b_x.lt; replace b_z := b_z.below t_ b_z.lt; replace hB := hB.trans (t_.mono hB.size); replace hA1 := hA1.trans (t_.mono hA1.size); replace hA2 := hA2.trans (t_.mono hA2.size); clear t_; (try simp only [Act.put, List.setIfInBounds_toArray, List.set_cons_zero, List.set_cons_succ]))
    | ((with_reducible refine at_callD 76 ?_); refine L_give (by rfl) (g_slen _ _ _ rfl rfl ?_); (try simp only [Act.put, List.setIfInBounds_toArray, List.set_cons_zero, List.set_cons_succ]))
    | ((with_reducible refine at_binD 77 ?_); refine L_give (by rfl) (g_ieq 3 _ _ .i64 _ _ true rfl rfl (decide_eq_true (by omega)) ?_); (try simp only [Act.put, List.setIfInBounds_toArray, List.set_cons_zero, List.set_cons_succ]))
    | ((with_reducible refine at_idxD 80 ?_); refine L_give (by rfl) (g_sidx _ _ S 0 _ 37 rfl rfl rfl s0 ?_); (try simp only [Act.put, List.setIfInBounds_toArray, List.set_cons_zero, List.set_cons_succ]))
    | ((with_reducible refine at_binD 81 ?_); refine L_give (by rfl) (g_ieq 5 _ _ .u8 _ _ true rfl rfl (by decide) ?_); (try simp only [Act.put, List.setIfInBounds_toArray, List.set_cons_zero, List.set_cons_succ]))
    | ((with_reducible refine at_idxD 85 ?_); refine L_give (by rfl) (g_sidx _ _ S 2 _ 250 rfl rfl rfl s2 ?_); (try simp only [Act.put, List.setIfInBounds_toArray, List.set_cons_zero, List.set_cons_succ]))
    | ((with_reducible refine at_binD 86 ?_); refine L_give (by rfl) (g_ieq 5 _ _ .u8 _ _ true rfl rfl (by decide) ?_); (try simp only [Act.put, List.setIfInBounds_toArray, List.set_cons_zero, List.set_cons_succ]))
    | ((with_reducible refine at_idxD 90 ?_); refine L_give (by rfl) (g_sidx _ _ S 47 _ 1 rfl rfl rfl s47 ?_); (try simp only [Act.put, List.setIfInBounds_toArray, List.set_cons_zero, List.set_cons_succ]))
    | ((with_reducible refine at_binD 91 ?_); refine L_give (by rfl) (g_ieq 5 _ _ .u8 _ _ true rfl rfl (by decide) ?_); (try simp only [Act.put, List.setIfInBounds_toArray, List.set_cons_zero, List.set_cons_succ]))
    | ((with_reducible refine at_binD 95 ?_); refine L_give (by rfl) (g_ieq 28 _ _ .i64 _ _ true rfl rfl (by decide) ?_); (try simp only [Act.put, List.setIfInBounds_toArray, List.set_cons_zero, List.set_cons_succ]))
    | ((with_reducible refine at_loadD 98 26 ?_); refine L_give (by rfl) (g_load_all 26 _ (w4.heap.size) (hc (hA)) 26 _ rfl (b_g) Try.underlying26 rfl (szH hz) ?_); (try simp only [Act.put, List.setIfInBounds_toArray, List.set_cons_zero, List.set_cons_succ]))
    | ((with_reducible refine at_loadD 99 26 ?_); refine L_give (by rfl) (g_load_all 26 _ (w.heap.size) (hc (hA)) 26 _ rfl (b_h) Try.underlying26 rfl (szH hz) ?_); (try simp only [Act.put, List.setIfInBounds_toArray, List.set_cons_zero, List.set_cons_succ]))
    | ((with_reducible refine at_binD 100 ?_); refine L_give (by rfl) (g_eqlH _ _ (hA) rfl rfl ?_); (try simp only [Act.put, List.setIfInBounds_toArray, List.set_cons_zero, List.set_cons_succ]))
    | ((with_reducible refine at_binD 104 ?_); refine L_give (by rfl) (g_ieq 28 _ _ .i64 _ _ true rfl rfl (by decide) ?_); (try simp only [Act.put, List.setIfInBounds_toArray, List.set_cons_zero, List.set_cons_succ]))
    | ((with_reducible refine at_binD 108 ?_); refine L_give (by rfl) (g_ieq 28 _ _ .i64 _ _ true rfl rfl (by decide) ?_); (try simp only [Act.put, List.setIfInBounds_toArray, List.set_cons_zero, List.set_cons_succ]))
    | ((with_reducible refine at_binD 112 ?_); refine L_give (by rfl) (g_ieq 28 _ _ .i64 _ _ true rfl rfl (by decide) ?_); (try simp only [Act.put, List.setIfInBounds_toArray, List.set_cons_zero, List.set_cons_succ]))
    | ((with_reducible refine at_callD 116 ?_); refine L_give (by rfl) (g_slen _ _ _ rfl rfl ?_); (try simp only [Act.put, List.setIfInBounds_toArray, List.set_cons_zero, List.set_cons_succ]))
    | ((with_reducible refine at_binD 117 ?_); refine L_give (by rfl) (g_ieq 3 _ _ .i64 _ _ true rfl rfl (decide_eq_true (by omega)) ?_); (try simp only [Act.put, List.setIfInBounds_toArray, List.set_cons_zero, List.set_cons_succ]))
    | ((with_reducible refine at_sliceD 121 ?_); refine L_give (by rfl) (g_sl_l _ _ W ⟨#[1, 2, 0, 9, 97, 98, 99, 100, 101, 0, 0, 0, 0, 7, 0, 4]⟩ 48 rfl rfl (by omega) hC.out ?_); (try simp only [Act.put, List.setIfInBounds_toArray, List.set_cons_zero, List.set_cons_succ]))
    | ((with_reducible refine at_binD 122 ?_); refine L_give (by rfl) (g_seql 9 _ _ (⟨#[1, 2, 0, 9, 97, 98, 99, 100, 101, 0, 0, 0, 0, 7, 0, 4]⟩) (⟨#[1, 2, 0, 9, 97, 98, 99, 100, 101, 0, 0, 0, 0, 7, 0, 4]⟩) true rfl rfl (decide_eq_true rfl) ?_); (try simp only [Act.put, List.setIfInBounds_toArray, List.set_cons_zero, List.set_cons_succ]))
    | ((with_reducible refine at_binD 126 ?_); refine L_give (by rfl) (g_ieq 28 _ _ .i64 _ _ true rfl rfl (by decide) ?_); (try simp only [Act.put, List.setIfInBounds_toArray, List.set_cons_zero, List.set_cons_succ]))
    | ((with_reducible refine at_loadD 129 26 ?_); refine L_give (by rfl) (g_load_all 26 _ (w13.heap.size) (hc (hA)) 26 _ rfl (b_x) Try.underlying26 rfl (szH hz) ?_); (try simp only [Act.put, List.setIfInBounds_toArray, List.set_cons_zero, List.set_cons_succ]))
    | ((with_reducible refine at_loadD 130 26 ?_); refine L_give (by rfl) (g_load_all 26 _ (w.heap.size) (hc (hA)) 26 _ rfl (b_h) Try.underlying26 rfl (szH hz) ?_); (try simp only [Act.put, List.setIfInBounds_toArray, List.set_cons_zero, List.set_cons_succ]))
    | ((with_reducible refine at_binD 131 ?_); refine L_give (by rfl) (g_eqlH _ _ (hA) rfl rfl ?_); (try simp only [Act.put, List.setIfInBounds_toArray, List.set_cons_zero, List.set_cons_succ]))
    | ((with_reducible refine at_callD 136 ?_); refine L_give (by rfl) (g_call 23 _ _ [.slice ao1 [f1, f2].length cap1, .slice (some ⟨w10.heap.size, 0, none⟩) 2 2] (kf23 _ _) rfl ((same_any [f1, f2] ao1 _ cap1 2 w20 hn2.out (p_m.below hA1) (fis_blk [f1, f2] b_l)).mono ?_)); rintro e w21 ⟨rfl, t_⟩; refine ⟨_, rfl, ?_⟩; replace b_h := b_h.below t_ b_h.lt; replace b_g := b_g.below t_ b_g.lt; replace b_y := b_y.below t_ b_y.lt; replace b_l := b_l.below t_ b_l.lt; replace b_x := b_x.below t_ b_x.lt; replace b_z := b_z.below t_ b_z.lt; replace hB := hB.trans (t_.mono hB.size); replace hA1 := hA1.trans (t_.mono hA1.size); replace hA2 := hA2.trans (t_.mono hA2.size); clear t_; (try simp only [Act.put, List.setIfInBounds_toArray, List.set_cons_zero, List.set_cons_succ]))
    | ((with_reducible refine at_binD 140 ?_); refine L_give (by rfl) (g_ieq 28 _ _ .i64 _ _ true rfl rfl (by decide) ?_); (try simp only [Act.put, List.setIfInBounds_toArray, List.set_cons_zero, List.set_cons_succ]))
    | ((with_reducible refine at_binD 144 ?_); refine L_give (by rfl) (g_ieq 28 _ _ .i64 _ _ true rfl rfl (by decide) ?_); (try simp only [Act.put, List.setIfInBounds_toArray, List.set_cons_zero, List.set_cons_succ]))
    | ((with_reducible refine at_binD 148 ?_); refine L_give (by rfl) (g_seql 9 _ _ (ByteArray.empty) (⟨#[]⟩) true rfl rfl (decide_eq_true rfl) ?_); (try simp only [Act.put, List.setIfInBounds_toArray, List.set_cons_zero, List.set_cons_succ]))
    | ((with_reducible refine at_loadD 158 26 ?_); refine L_give (by rfl) (g_load_all 26 _ (w.heap.size) (hc (hA)) 26 _ rfl (b_h) Try.underlying26 rfl (szH hz) ?_); (try simp only [Act.put, List.setIfInBounds_toArray, List.set_cons_zero, List.set_cons_succ]))
    | ((with_reducible refine at_callD 159 ?_); refine L_give (by rfl) (g_call 16 _ _ [.agg (hc (hA)).toArray] (kf16 _ _) rfl ((may_any hA true w21 hM).mono ?_)); rintro e w22 ⟨rfl, t_⟩; refine ⟨_, rfl, ?_⟩; replace b_h := b_h.below t_ b_h.lt; replace b_g := b_g.below t_ b_g.lt; replace b_y := b_y.below t_ b_y.lt; replace b_l := b_l.below t_ b_l.lt; replace b_x := b_x.below t_ b_x.lt; replace b_z := b_z.below t_ b_z.lt; replace hB := hB.trans (t_.mono hB.size); replace hA1 := hA1.trans (t_.mono hA1.size); replace hA2 := hA2.trans (t_.mono hA2.size); clear t_; (try simp only [Act.put, List.setIfInBounds_toArray, List.set_cons_zero, List.set_cons_succ])))
  go_ret
  exact ⟨rfl, hB⟩
def hA : Hd := ⟨0, 4, 5, 0, -6, 0, 0, 0, 0, 0, 0, 0, 1⟩
theorem awake_any (w : World) : Calls Try.prog 11 #[] w fun e w' => e = .returned (.bool true) ∧ Below w.heap.size w w' := by
  have iA : InH hA := by constructor <;> simp only [hA, In64, InU32, InU64] <;> omega
  have iz : InH hz := by constructor <;> simp only [hz, In64, InU32, InU64] <;> omega
  have mA : Mays hA := by decide
  have e1 : may hA = true := by decide
  have eS : pt hA = (⟨(hb hA).toArray⟩, 0) := by unfold pt; rw [if_pos e1]
  have eb : hb hA = [37, 0, 250, 0, 0, 0, 0, 0, 0, 0, 0, 0, 0, 0, 0, 0, 0, 0, 0, 0, 0, 0, 0, 0, 0, 0, 0, 0, 0, 0, 0, 0, 0, 0, 0, 0, 0, 0, 0, 0, 0, 0, 0, 0, 0, 0, 0, 1] := by decide +kernel
  have fM : ∀ f ∈ [((258, ⟨#[97, 98, 99, 100, 101]⟩) : Int × ByteArray), (7, ByteArray.empty)], FMays f := by decide
  have eW : wr hA [(258, ⟨#[97, 98, 99, 100, 101]⟩), (7, ByteArray.empty)] = (⟨(wb hA [(258, ⟨#[97, 98, 99, 100, 101]⟩), (7, ByteArray.empty)]).toArray⟩, 0) := by unfold wr; rw [if_pos e1, if_pos ((all_fmay _).2 fM), if_neg (by decide)]
  have ef : [((258, ⟨#[97, 98, 99, 100, 101]⟩) : Int × ByteArray), (7, ByteArray.empty)].flatMap fb = [1, 2, 0, 9, 97, 98, 99, 100, 101, 0, 0, 0, 0, 7, 0, 4] := by decide +kernel
  have ew : wb hA [(258, ⟨#[97, 98, 99, 100, 101]⟩), (7, ByteArray.empty)] = hb hA ++ [1, 2, 0, 9, 97, 98, 99, 100, 101, 0, 0, 0, 0, 7, 0, 4] := by unfold wb; rw [ef]
  have lb := hb_length hA
  have ed : dec (hb hA) = hA := dec_hb hA mA iA
  have z : ∀ l : List UInt8, (⟨l.toArray⟩ : ByteArray).data.toList = l := fun l => by simp
  refine awake_w hA _ _ _ _ _ w rfl rfl rfl iA iz eS ?_ ?_ ?_ eW ?_ ?_ ?_ ?_ ?_ ?_ ?_ rfl ?_ ?_ ?_ ?_ e1
  · show _ = _
    unfold tk
    rw [if_pos (by rw [size_toArray, lb]), z, ed, if_pos (by decide)]
  · show _ = _
    unfold tk
    rw [if_neg (by decide)]
  · show _ = _
    unfold pt
    rw [if_neg (by decide)]
  · rw [size_toArray, lb]
  · rw [z, eb]; rfl
  · rw [z, eb]; rfl
  · rw [z, eb]; rfl
  · rw [size_toArray, ew, List.length_append, lb]; rfl
  · show _ = _
    apply ByteArray.ext; apply Array.toList_inj.1
    rw [ext_list, z, ew, List.drop_left' lb]; rfl
  · show _ = _
    unfold rdp
    rw [if_neg (by rw [size_toArray, ew, List.length_append, lb]; decide), z, ew, List.take_left' lb, List.drop_left' lb, ed, if_pos (by decide), ← ef, fl_wb _ _ fM (by decide)]
    rfl
  · rw [size_app, size_toArray, ew, List.length_append, lb]; rfl
  · show _ = _
    have e : (⟨(wb hA [(258, ⟨#[97, 98, 99, 100, 101]⟩), (7, ByteArray.empty)]).toArray⟩ ++ ⟨#[120]⟩ : ByteArray).data.toList = hb hA ++ [1, 2, 0, 9, 97, 98, 99, 100, 101, 0, 0, 0, 0, 7, 0, 4, 120] := by
      rw [list_app, z, ew, List.append_assoc]; rfl
    have q : (fl 16 [1, 2, 0, 9, 97, 98, 99, 100, 101, 0, 0, 0, 0, 7, 0, 4, 120]).2 = 2 := by decide +kernel
    unfold rdp
    rw [if_neg (by rw [size_app, size_toArray, ew, List.length_append, lb]; decide), e, List.take_left' lb, List.drop_left' lb, ed, if_pos (by decide), if_neg (by rw [q]; decide), q]
  · show _ = _; decide
  · show _ = _; decide
end Go.Proofs.Yteieacamokoejaa
