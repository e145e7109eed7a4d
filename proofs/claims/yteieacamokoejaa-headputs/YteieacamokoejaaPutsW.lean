/- HeadPuts: the walk. -/
import Derived.Test.YteieacamokoejaaLawA
namespace Go.Proofs.Yteieacamokoejaa.headPuts
open Go Go.RowKit
set_option linter.unusedVariables false
set_option linter.unusedSimpArgs false

set_option maxRecDepth 10000 in
set_option maxHeartbeats 4000000 in
theorem walk1 (h : Hd) (s : ByteArray) (w : World) (hi : InH h) (hl : (2048 : Int) < (s.size : Int)) : Calls Try.prog 3 #[.agg (hc h).toArray, .string s] w fun e w' => e = .returned (.bool true) ∧ Below w.heap.size w w' := by
  go_enter Try.func3, Try.ntmps3
  go_wp2_with (first
    | ((with_reducible refine at_boxD 2 26 ?_); refine L_box 26 _ (hc (h)) rfl ?_; intro w1 t_ b_h; have l_hB_h : w.heap.size ≤ w.heap.size := Nat.le_refl _; have hB : Below w.heap.size w w1 := t_.below (Below.refl _ _) (Nat.le_refl _); clear t_; (try simp only [Act.put, List.setIfInBounds_toArray, List.set_cons_zero, List.set_cons_succ]))
    | ((with_reducible refine at_callD 13 ?_); refine L_give (by rfl) (g_call 11 _ _ [] (kf11 _ _) rfl ((awake_any w1).mono ?_)); rintro e w2 ⟨rfl, t_⟩; refine ⟨_, rfl, ?_⟩; replace b_h := b_h.below t_ b_h.lt; replace hB := hB.trans (t_.mono hB.size); clear t_; (try simp only [Act.put, List.setIfInBounds_toArray, List.set_cons_zero, List.set_cons_succ]))
    | ((with_reducible refine at_callD 16 ?_); refine L_give (by rfl) (g_slen _ _ _ rfl rfl ?_); (try simp only [Act.put, List.setIfInBounds_toArray, List.set_cons_zero, List.set_cons_succ]))
    | ((with_reducible refine at_binD 17 ?_); refine L_give (by rfl) (g_igtr 3 _ _ .i64 _ _ true rfl rfl (decide_eq_true hl) ?_); (try simp only [Act.put, List.setIfInBounds_toArray, List.set_cons_zero, List.set_cons_succ])))
  go_ret
  exact ⟨rfl, hB⟩
set_option maxRecDepth 10000 in
set_option maxHeartbeats 4000000 in
theorem walk2 (h : Hd) (s : ByteArray) (w : World) (hi : InH h) (S : ByteArray) (E : Int) (G : Hd) (F : Int) (b : Bool) (hl : ¬ (2048 : Int) < (s.size : Int)) (hS : Hid (pt h = (S, E))) (hG : Hid (tk s = (G, F))) (hb : Hid (may h = b)) : Calls Try.prog 3 #[.agg (hc h).toArray, .string s] w fun e w' => e = .returned (.bool true) ∧ Below w.heap.size w w' := by
  go_enter Try.func3, Try.ntmps3
  go_wp2_with (first
    | ((with_reducible refine at_boxD 2 26 ?_); refine L_box 26 _ (hc (h)) rfl ?_; intro w1 t_ b_h; have l_hB_h : w.heap.size ≤ w.heap.size := Nat.le_refl _; have hB : Below w.heap.size w w1 := t_.below (Below.refl _ _) (Nat.le_refl _); clear t_; (try simp only [Act.put, List.setIfInBounds_toArray, List.set_cons_zero, List.set_cons_succ]))
    | ((with_reducible refine at_callD 13 ?_); refine L_give (by rfl) (g_call 11 _ _ [] (kf11 _ _) rfl ((awake_any w1).mono ?_)); rintro e w2 ⟨rfl, t_⟩; refine ⟨_, rfl, ?_⟩; replace b_h := b_h.below t_ b_h.lt; replace hB := hB.trans (t_.mono hB.size); clear t_; (try simp only [Act.put, List.setIfInBounds_toArray, List.set_cons_zero, List.set_cons_succ]))
    | ((with_reducible refine at_callD 16 ?_); refine L_give (by rfl) (g_slen _ _ _ rfl rfl ?_); (try simp only [Act.put, List.setIfInBounds_toArray, List.set_cons_zero, List.set_cons_succ]))
    | ((with_reducible refine at_binD 17 ?_); refine L_give (by rfl) (g_igtr 3 _ _ .i64 _ _ false rfl rfl (decide_eq_false hl) ?_); (try simp only [Act.put, List.setIfInBounds_toArray, List.set_cons_zero, List.set_cons_succ]))
    | ((with_reducible refine at_loadD 19 26 ?_); refine L_give (by rfl) (g_load_all 26 _ (w.heap.size) (hc (h)) 26 _ rfl (b_h) Try.underlying26 rfl (szH hz) ?_); (try simp only [Act.put, List.setIfInBounds_toArray, List.set_cons_zero, List.set_cons_succ]))
    | ((with_reducible refine at_callD 20 ?_); refine L_give (by rfl) (g_call 12 _ _ [.agg (hc (h)).toArray] (kf12 _ _) rfl ((hput_any h S E w2 hi hS).mono ?_)); rintro e w3 ⟨rfl, t_⟩; refine ⟨_, rfl, ?_⟩; replace b_h := b_h.below t_ b_h.lt; replace hB := hB.trans (t_.mono hB.size); clear t_; (try simp only [Act.put, List.setIfInBounds_toArray, List.set_cons_zero, List.set_cons_succ]))
    | ((with_reducible refine at_loadD 24 26 ?_); refine L_give (by rfl) (g_load_all 26 _ (w.heap.size) (hc (h)) 26 _ rfl (b_h) Try.underlying26 rfl (szH hz) ?_); (try simp only [Act.put, List.setIfInBounds_toArray, List.set_cons_zero, List.set_cons_succ]))
    | ((with_reducible refine at_callD 25 ?_); refine L_give (by rfl) (g_call 13 _ _ [.agg (hc (h)).toArray] (kf13 _ _) rfl ((rhput_any h S E w3 hi hS).mono ?_)); rintro e w4 ⟨rfl, t_⟩; refine ⟨_, rfl, ?_⟩; replace b_h := b_h.below t_ b_h.lt; replace hB := hB.trans (t_.mono hB.size); clear t_; (try simp only [Act.put, List.setIfInBounds_toArray, List.set_cons_zero, List.set_cons_succ]))
    | ((with_reducible refine at_callD 30 ?_); refine L_give (by rfl) (g_call 14 _ _ [.string (s)] (kf14 _ _) rfl ((htake_any s G F w4 hG).mono ?_)); rintro e w5 ⟨rfl, t_⟩; refine ⟨_, rfl, ?_⟩; replace b_h := b_h.below t_ b_h.lt; replace hB := hB.trans (t_.mono hB.size); clear t_; (try simp only [Act.put, List.setIfInBounds_toArray, List.set_cons_zero, List.set_cons_succ]))
    | ((with_reducible refine at_allocD 9 26 ?_); refine L_alloc 26 (hc (hz)) zeroH ?_; intro w6 t_ b_c; have o_h_c := b_h.lt; have l_hB_c : _ ≤ w5.heap.size := hB.size; replace b_h := t_.blk b_h (Nat.ne_of_lt b_h.lt); replace hB := t_.below hB l_hB_c; clear t_; (try simp only [Act.put, List.setIfInBounds_toArray, List.set_cons_zero, List.set_cons_succ]))
    | ((with_reducible refine at_storeX 9 26 ?_); refine L_store_all 26 _ _ (w5.heap.size) (hc (G)) _ 26 rfl rfl b_c (szH hz) rfl (one_hc _) ?_; clear b_c; intro w7 t_ b_c; replace b_h := t_.blk b_h (Nat.ne_of_lt o_h_c); replace hB := t_.below hB l_hB_c; clear t_)
    | ((with_reducible refine at_callD 35 ?_); refine L_give (by rfl) (g_call 15 _ _ [.string (s)] (kf15 _ _) rfl ((rhtake_any s G F w7 hG).mono ?_)); rintro e w8 ⟨rfl, t_⟩; refine ⟨_, rfl, ?_⟩; replace b_h := b_h.below t_ b_h.lt; replace b_c := b_c.below t_ b_c.lt; replace hB := hB.trans (t_.mono hB.size); clear t_; (try simp only [Act.put, List.setIfInBounds_toArray, List.set_cons_zero, List.set_cons_succ]))
    | ((with_reducible refine at_allocD 11 26 ?_); refine L_alloc 26 (hc (hz)) zeroH ?_; intro w9 t_ b_d; have o_h_d := b_h.lt; have o_c_d := b_c.lt; have l_hB_d : _ ≤ w8.heap.size := hB.size; replace b_h := t_.blk b_h (Nat.ne_of_lt b_h.lt); replace b_c := t_.blk b_c (Nat.ne_of_lt b_c.lt); replace hB := t_.below hB l_hB_d; clear t_; (try simp only [Act.put, List.setIfInBounds_toArray, List.set_cons_zero, List.set_cons_succ]))
    | ((with_reducible refine at_storeX 11 26 ?_); refine L_store_all 26 _ _ (w8.heap.size) (hc (G)) _ 26 rfl rfl b_d (szH hz) rfl (one_hc _) ?_; clear b_d; intro w10 t_ b_d; replace b_h := t_.blk b_h (Nat.ne_of_lt o_h_d); replace b_c := t_.blk b_c (Nat.ne_of_lt o_c_d); replace hB := t_.below hB l_hB_d; clear t_)
    | (refine stop_region 9 ?_; intro X hX))
  refine hX.out ?_
  clear hX X
  refine wp_region_fixed (by kernel_rfl) (by kernel_rfl) [.string (S), .string (S), .bool true, .bool true, .int .i64 (E), .int .i64 (E), .bool true, .bool true, .bool true, .agg (hc (G)).toArray, .agg (hc (G)).toArray, .bool true, .bool true, .bool true, .int .i64 (F), .int .i64 (F), .bool true, .bool true, .bool true, .agg (hc (h)).toArray, .bool (b), .agg (hc (h)).toArray, .bool (b), .bool true, .bool true, .bool true] (by rfl) (fun w' => Below w10.heap.size w10 w') (Below.refl _ _).drew ?_ ?_
  · simp only [fullL, Act.put, List.setIfInBounds_toArray, List.set_cons_succ, List.set_cons_zero]
    refine ⟨?_, ?_, ?_, ?_, ?_, ?_, ?_, ?_, ?_, ?_, ?_, ?_, ?_, ?_, ?_, ?_, ?_, ?_, ?_, ?_, ?_, ?_, ?_, ?_, ?_, ?_, trivial⟩
    · exact fun wx hw => gw rfl (g_move _ _ rfl ⟨rfl, hw⟩)
    · exact fun wx hw => gw rfl (g_move _ _ rfl ⟨rfl, hw⟩)
    · exact fun wx hw => gw rfl (g_seql 9 _ _ (S) (S) true rfl rfl (decide_eq_true rfl) ⟨rfl, hw⟩)
    · exact fun wx hw => gw rfl (g_move _ _ rfl ⟨rfl, hw⟩)
    · exact fun wx hw => gw rfl (g_move _ _ rfl ⟨rfl, hw⟩)
    · exact fun wx hw => gw rfl (g_move _ _ rfl ⟨rfl, hw⟩)
    · exact fun wx hw => gw rfl (g_ieq 28 _ _ .i64 _ _ true rfl rfl (decide_eq_true rfl) ⟨rfl, hw⟩)
    · exact fun wx hw => gw rfl (g_pickt _ _ _ _ rfl rfl ⟨rfl, hw⟩)
    · exact fun wx hw => gw rfl (g_move _ _ rfl ⟨rfl, hw⟩)
    · exact fun wx hw => gw rfl (g_load_all 26 _ (w5.heap.size) (hc (G)) 26 _ rfl ((b_c.below hw b_c.lt)) Try.underlying26 rfl (szH hz) ⟨rfl, hw⟩)
    · exact fun wx hw => gw rfl (g_load_all 26 _ (w8.heap.size) (hc (G)) 26 _ rfl ((b_d.below hw b_d.lt)) Try.underlying26 rfl (szH hz) ⟨rfl, hw⟩)
    · exact fun wx hw => gw rfl (g_eqlH _ _ (G) rfl rfl ⟨rfl, hw⟩)
    · exact fun wx hw => gw rfl (g_pickt _ _ _ _ rfl rfl ⟨rfl, hw⟩)
    · exact fun wx hw => gw rfl (g_move _ _ rfl ⟨rfl, hw⟩)
    · exact fun wx hw => gw rfl (g_move _ _ rfl ⟨rfl, hw⟩)
    · exact fun wx hw => gw rfl (g_move _ _ rfl ⟨rfl, hw⟩)
    · exact fun wx hw => gw rfl (g_ieq 28 _ _ .i64 _ _ true rfl rfl (decide_eq_true rfl) ⟨rfl, hw⟩)
    · exact fun wx hw => gw rfl (g_pickt _ _ _ _ rfl rfl ⟨rfl, hw⟩)
    · exact fun wx hw => gw rfl (g_move _ _ rfl ⟨rfl, hw⟩)
    · exact fun wx hw => gw rfl (g_load_all 26 _ (w.heap.size) (hc (h)) 26 _ rfl ((b_h.below hw b_h.lt)) Try.underlying26 rfl (szH hz) ⟨rfl, hw⟩)
    · exact fun wx hw => gw rfl (g_call 16 _ _ [.agg (hc (h)).toArray] (kf16 _ _) rfl (mono_val hw (may_any h b wx hb)))
    · exact fun wx hw => gw rfl (g_load_all 26 _ (w.heap.size) (hc (h)) 26 _ rfl ((b_h.below hw b_h.lt)) Try.underlying26 rfl (szH hz) ⟨rfl, hw⟩)
    · exact fun wx hw => gw rfl (g_call 17 _ _ [.agg (hc (h)).toArray] (kf17 _ _) rfl (mono_val hw (rmay_any h b wx hb)))
    · exact fun wx hw => gw rfl (g_bself _ _ b rfl rfl ⟨rfl, hw⟩)
    · exact fun wx hw => gw rfl (g_pickt _ _ _ _ rfl rfl ⟨rfl, hw⟩)
    · exact fun wx hw => gw rfl (g_assign _ _ rfl ⟨rfl, hw⟩)
  · simp only [fullL, Act.put, List.setIfInBounds_toArray, List.set_cons_succ, List.set_cons_zero]
    intro w11 t_
    replace b_h := b_h.below t_ b_h.lt
    replace b_c := b_c.below t_ b_c.lt
    replace b_d := b_d.below t_ b_d.lt
    replace hB := hB.trans (t_.mono hB.size)
    clear t_
    go_wp2_with fail
    go_ret
    exact ⟨rfl, hB⟩
theorem walk (h : Hd) (s : ByteArray) (w : World) (hi : InH h) : Calls Try.prog 3 #[.agg (hc h).toArray, .string s] w fun e w' => e = .returned (.bool true) ∧ Below w.heap.size w w' := by
  by_cases hl : (2048 : Int) < (s.size : Int)
  · exact walk1 h s w hi hl
  · exact walk2 h s w hi _ _ _ _ _ hl rfl rfl rfl
end Go.Proofs.Yteieacamokoejaa.headPuts
