/- What the program's head.Read and Find answer, the laws' large, and the reference's Same of extensions that are the same. -/
import Derived.Test.YteieacamokoejaaHd9
namespace Go.Proofs.Yteieacamokoejaa
open Go Go.RowKit
set_option linter.unusedVariables false

set_option maxRecDepth 10000 in
set_option maxHeartbeats 2000000 in
theorem read_0 (s : ByteArray) (w : World) (c0 : (s.size : Int) < 48) : Calls Try.prog 19 #[.string s] w fun e w' => ∃ v, e = .returned (.tuple #[.agg (hc hz).toArray, v, .int .i64 5]) ∧ Fis w' v [] ∧ Below w.heap.size w w' := by
  go_enter Try.func19, Try.ntmps19
  go_wp2_with (first
    | ((with_reducible refine at_allocD 2 26 ?_); refine L_alloc 26 (hc (hz)) zeroH ?_; intro w1 t_ b_r; have l_hB_r : w.heap.size ≤ w.heap.size := Nat.le_refl _; have hB : Below w.heap.size w w1 := t_.below (Below.refl _ _) (Nat.le_refl _); clear t_; (try simp only [Act.put, List.setIfInBounds_toArray, List.set_cons_zero, List.set_cons_succ]))
    | ((with_reducible refine at_callD 9 ?_); refine L_give (by rfl) (g_slen _ _ _ rfl rfl ?_); (try simp only [Act.put, List.setIfInBounds_toArray, List.set_cons_zero, List.set_cons_succ]))
    | ((with_reducible refine at_binD 10 ?_); refine L_give (by rfl) (g_ilss 3 _ _ .i64 _ _ true rfl rfl (decide_eq_true c0) ?_); (try simp only [Act.put, List.setIfInBounds_toArray, List.set_cons_zero, List.set_cons_succ]))
    | ((with_reducible refine at_bld 11 ?_); refine L_give (by rfl) (g_bldH0 ?_); (try simp only [Act.put, List.setIfInBounds_toArray, List.set_cons_zero, List.set_cons_succ]))
    | ((with_reducible refine at_storeX 2 26 ?_); refine L_store_all 26 _ _ (w.heap.size) (hc (hz)) _ 26 rfl rfl b_r (szH hz) rfl (one_hc _) ?_; clear b_r; intro w2 t_ b_r; replace hB := t_.below hB l_hB_r; clear t_))
  exact bodyPost_ret (results_blk_tmp2 rfl _ (hc hz) (.slice none 0 0) (.int .i64 5) _ rfl rfl rfl b_r Try.underlying26 rfl (szH hz)) rfl ⟨_, rfl, Fis.nil _, hB⟩
set_option maxRecDepth 10000 in
set_option maxHeartbeats 2000000 in
theorem read_1 (s X : ByteArray) (w : World) (c0 : ¬ (s.size : Int) < 48) (hs48 : 48 ≤ s.size) (hX : Hid (s.extract 0 48 = X)) (ht : Hid (tk X = (hz, 2))) : Calls Try.prog 19 #[.string s] w fun e w' => ∃ v, e = .returned (.tuple #[.agg (hc hz).toArray, v, .int .i64 2]) ∧ Fis w' v [] ∧ Below w.heap.size w w' := by
  go_enter Try.func19, Try.ntmps19
  go_wp2_with (first
    | ((with_reducible refine at_allocD 2 26 ?_); refine L_alloc 26 (hc (hz)) zeroH ?_; intro w1 t_ b_r; have l_hB_r : w.heap.size ≤ w.heap.size := Nat.le_refl _; have hB : Below w.heap.size w w1 := t_.below (Below.refl _ _) (Nat.le_refl _); clear t_; (try simp only [Act.put, List.setIfInBounds_toArray, List.set_cons_zero, List.set_cons_succ]))
    | ((with_reducible refine at_callD 9 ?_); refine L_give (by rfl) (g_slen _ _ _ rfl rfl ?_); (try simp only [Act.put, List.setIfInBounds_toArray, List.set_cons_zero, List.set_cons_succ]))
    | ((with_reducible refine at_binD 10 ?_); refine L_give (by rfl) (g_ilss 3 _ _ .i64 _ _ false rfl rfl (decide_eq_false c0) ?_); (try simp only [Act.put, List.setIfInBounds_toArray, List.set_cons_zero, List.set_cons_succ]))
    | ((with_reducible refine at_sliceD 14 ?_); refine L_give (by rfl) (g_sl_h _ _ s X 48 rfl rfl hs48 hX.out ?_); (try simp only [Act.put, List.setIfInBounds_toArray, List.set_cons_zero, List.set_cons_succ]))
    | ((with_reducible refine at_callD 15 ?_); refine L_give (by rfl) (g_call 14 _ _ [.string (X)] (kf14 _ _) rfl ((htake_any X hz 2 w1 ht).mono ?_)); rintro e w2 ⟨rfl, t_⟩; refine ⟨_, rfl, ?_⟩; replace b_r := b_r.below t_ b_r.lt; replace hB := hB.trans (t_.mono hB.size); clear t_; (try simp only [Act.put, List.setIfInBounds_toArray, List.set_cons_zero, List.set_cons_succ]))
    | ((with_reducible refine at_allocD 5 26 ?_); refine L_alloc 26 (hc (hz)) zeroH ?_; intro w3 t_ b_h; have o_r_h := b_r.lt; have l_hB_h : _ ≤ w2.heap.size := hB.size; replace b_r := t_.blk b_r (Nat.ne_of_lt b_r.lt); replace hB := t_.below hB l_hB_h; clear t_; (try simp only [Act.put, List.setIfInBounds_toArray, List.set_cons_zero, List.set_cons_succ]))
    | ((with_reducible refine at_storeX 5 26 ?_); refine L_store_all 26 _ _ (w2.heap.size) (hc (hz)) _ 26 rfl rfl b_h (szH hz) rfl (one_hc _) ?_; clear b_h; intro w4 t_ b_h; replace b_r := t_.blk b_r (Nat.ne_of_lt o_r_h); replace hB := t_.below hB l_hB_h; clear t_)
    | ((with_reducible refine at_binD 19 ?_); refine L_give (by rfl) (g_ine 28 _ _ .i64 _ _ true rfl rfl (by decide) ?_); (try simp only [Act.put, List.setIfInBounds_toArray, List.set_cons_zero, List.set_cons_succ]))
    | ((with_reducible refine at_bld 20 ?_); refine L_give (by rfl) (g_bldH0 ?_); (try simp only [Act.put, List.setIfInBounds_toArray, List.set_cons_zero, List.set_cons_succ]))
    | ((with_reducible refine at_storeX 2 26 ?_); refine L_store_all 26 _ _ (w.heap.size) (hc (hz)) _ 26 rfl rfl b_r (szH hz) rfl (one_hc _) ?_; clear b_r; intro w5 t_ b_r; replace b_h := t_.blk b_h (Nat.ne_of_gt o_r_h); replace hB := t_.below hB l_hB_r; clear t_))
  exact bodyPost_ret (results_blk_tmp2 rfl _ (hc hz) (.slice none 0 0) (.int .i64 2) _ rfl rfl rfl b_r Try.underlying26 rfl (szH hz)) rfl ⟨_, rfl, Fis.nil _, hB⟩
set_option maxRecDepth 10000 in
set_option maxHeartbeats 2000000 in
theorem read_2 (s X : ByteArray) (w : World) (c0 : ¬ (s.size : Int) < 48) (hs48 : 48 ≤ s.size) (hX : Hid (s.extract 0 48 = X)) (Y : ByteArray) (G : Hd) (hY : Hid (s.extract 48 s.size = Y)) (hYs : Y.size ≤ 140737488355328) (ht : Hid (tk X = (G, 0))) (l : List (Int × ByteArray)) (E : Int) (hl : Hid (fl 16 Y.data.toList = (l, E))) (hE : E ≠ 0) : Calls Try.prog 19 #[.string s] w fun e w' => ∃ v, e = .returned (.tuple #[.agg (hc hz).toArray, v, .int .i64 E]) ∧ Fis w' v [] ∧ Below w.heap.size w w' := by
  go_enter Try.func19, Try.ntmps19
  go_wp2_with (first
    | ((with_reducible refine at_allocD 2 26 ?_); refine L_alloc 26 (hc (hz)) zeroH ?_; intro w1 t_ b_r; have l_hB_r : w.heap.size ≤ w.heap.size := Nat.le_refl _; have hB : Below w.heap.size w w1 := t_.below (Below.refl _ _) (Nat.le_refl _); clear t_; (try simp only [Act.put, List.setIfInBounds_toArray, List.set_cons_zero, List.set_cons_succ]))
    | ((with_reducible refine at_callD 9 ?_); refine L_give (by rfl) (g_slen _ _ _ rfl rfl ?_); (try simp only [Act.put, List.setIfInBounds_toArray, List.set_cons_zero, List.set_cons_succ]))
    | ((with_reducible refine at_binD 10 ?_); refine L_give (by rfl) (g_ilss 3 _ _ .i64 _ _ false rfl rfl (decide_eq_false c0) ?_); (try simp only [Act.put, List.setIfInBounds_toArray, List.set_cons_zero, List.set_cons_succ]))
    | ((with_reducible refine at_sliceD 14 ?_); refine L_give (by rfl) (g_sl_h _ _ s X 48 rfl rfl hs48 hX.out ?_); (try simp only [Act.put, List.setIfInBounds_toArray, List.set_cons_zero, List.set_cons_succ]))
    | ((with_reducible refine at_callD 15 ?_); refine L_give (by rfl) (g_call 14 _ _ [.string (X)] (kf14 _ _) rfl ((htake_any X G 0 w1 ht).mono ?_)); rintro e w2 ⟨rfl, t_⟩; refine ⟨_, rfl, ?_⟩; replace b_r := b_r.below t_ b_r.lt; replace hB := hB.trans (t_.mono hB.size); clear t_; (try simp only [Act.put, List.setIfInBounds_toArray, List.set_cons_zero, List.set_cons_succ]))
    | ((with_reducible refine at_allocD 5 26 ?_); refine L_alloc 26 (hc (hz)) zeroH ?_; intro w3 t_ b_h; have o_r_h := b_r.lt; have l_hB_h : _ ≤ w2.heap.size := hB.size; replace b_r := t_.blk b_r (Nat.ne_of_lt b_r.lt); replace hB := t_.below hB l_hB_h; clear t_; (try simp only [Act.put, List.setIfInBounds_toArray, List.set_cons_zero, List.set_cons_succ]))
    | ((with_reducible refine at_storeX 5 26 ?_); refine L_store_all 26 _ _ (w2.heap.size) (hc (G)) _ 26 rfl rfl b_h (szH hz) rfl (one_hc _) ?_; clear b_h; intro w4 t_ b_h; replace b_r := t_.blk b_r (Nat.ne_of_lt o_r_h); replace hB := t_.below hB l_hB_h; clear t_)
    | ((with_reducible refine at_binD 19 ?_); refine L_give (by rfl) (g_ine 28 _ _ .i64 _ _ false rfl rfl (by decide) ?_); (try simp only [Act.put, List.setIfInBounds_toArray, List.set_cons_zero, List.set_cons_succ]))
    | ((with_reducible refine at_sliceD 24 ?_); refine L_give (by rfl) (g_sl_l _ _ s Y 48 rfl rfl hs48 hY.out ?_); (try simp only [Act.put, List.setIfInBounds_toArray, List.set_cons_zero, List.set_cons_succ]))
    | ((with_reducible refine at_callD 25 ?_); refine L_give (by rfl) (g_call 35 _ _ [.string (Y)] (kf35 _ _) rfl ((fields_any Y l E w4 hYs hl).mono ?_)); rintro e w5 ⟨v, rfl, p_l, t_⟩; refine ⟨_, rfl, ?_⟩; have o_r_p_l := b_r.lt; have o_h_p_l := b_h.lt; replace b_r := b_r.below t_ b_r.lt; replace b_h := b_h.below t_ b_h.lt; replace hB := hB.trans (t_.mono hB.size); clear t_; (try simp only [Act.put, List.setIfInBounds_toArray, List.set_cons_zero, List.set_cons_succ]))
    | ((with_reducible refine at_binD 29 ?_); refine L_give (by rfl) (g_ine 28 _ _ .i64 _ _ true rfl rfl (decide_eq_true hE) ?_); (try simp only [Act.put, List.setIfInBounds_toArray, List.set_cons_zero, List.set_cons_succ]))
    | ((with_reducible refine at_bld 30 ?_); refine L_give (by rfl) (g_bldH0 ?_); (try simp only [Act.put, List.setIfInBounds_toArray, List.set_cons_zero, List.set_cons_succ]))
    | ((with_reducible refine at_storeX 2 26 ?_); refine L_store_all 26 _ _ (w.heap.size) (hc (hz)) _ 26 rfl rfl b_r (szH hz) rfl (one_hc _) ?_; clear b_r; intro w6 t_ b_r; replace p_l := p_l.turn t_ o_r_p_l; replace b_h := t_.blk b_h (Nat.ne_of_gt o_r_h); replace hB := t_.below hB l_hB_r; clear t_))
  exact bodyPost_ret (results_blk_tmp2 rfl _ (hc hz) (.slice none 0 0) (.int .i64 E) _ rfl rfl rfl b_r Try.underlying26 rfl (szH hz)) rfl ⟨_, rfl, Fis.nil _, hB⟩
set_option maxRecDepth 10000 in
set_option maxHeartbeats 2000000 in
theorem read_3 (s X : ByteArray) (w : World) (c0 : ¬ (s.size : Int) < 48) (hs48 : 48 ≤ s.size) (hX : Hid (s.extract 0 48 = X)) (Y : ByteArray) (G : Hd) (hY : Hid (s.extract 48 s.size = Y)) (hYs : Y.size ≤ 140737488355328) (ht : Hid (tk X = (G, 0))) (l : List (Int × ByteArray)) (E : Int) (hl : Hid (fl 16 Y.data.toList = (l, E))) (hE : Hid (E = 0)) : Calls Try.prog 19 #[.string s] w fun e w' => ∃ v, e = .returned (.tuple #[.agg (hc G).toArray, v, .int .i64 0]) ∧ Fis w' v l ∧ Below w.heap.size w w' := by
  go_enter Try.func19, Try.ntmps19
  go_wp2_with (first
    | ((with_reducible refine at_allocD 2 26 ?_); refine L_alloc 26 (hc (hz)) zeroH ?_; intro w1 t_ b_r; have l_hB_r : w.heap.size ≤ w.heap.size := Nat.le_refl _; have hB : Below w.heap.size w w1 := t_.below (Below.refl _ _) (Nat.le_refl _); clear t_; (try simp only [Act.put, List.setIfInBounds_toArray, List.set_cons_zero, List.set_cons_succ]))
    | ((with_reducible refine at_callD 9 ?_); refine L_give (by rfl) (g_slen _ _ _ rfl rfl ?_); (try simp only [Act.put, List.setIfInBounds_toArray, List.set_cons_zero, List.set_cons_succ]))
    | ((with_reducible refine at_binD 10 ?_); refine L_give (by rfl) (g_ilss 3 _ _ .i64 _ _ false rfl rfl (decide_eq_false c0) ?_); (try simp only [Act.put, List.setIfInBounds_toArray, List.set_cons_zero, List.set_cons_succ]))
    | ((with_reducible refine at_sliceD 14 ?_); refine L_give (by rfl) (g_sl_h _ _ s X 48 rfl rfl hs48 hX.out ?_); (try simp only [Act.put, List.setIfInBounds_toArray, List.set_cons_zero, List.set_cons_succ]))
    | ((with_reducible refine at_callD 15 ?_); refine L_give (by rfl) (g_call 14 _ _ [.string (X)] (kf14 _ _) rfl ((htake_any X G 0 w1 ht).mono ?_)); rintro e w2 ⟨rfl, t_⟩; refine ⟨_, rfl, ?_⟩; replace b_r := b_r.below t_ b_r.lt; replace hB := hB.trans (t_.mono hB.size); clear t_; (try simp only [Act.put, List.setIfInBounds_toArray, List.set_cons_zero, List.set_cons_succ]))
    | ((with_reducible refine at_allocD 5 26 ?_); refine L_alloc 26 (hc (hz)) zeroH ?_; intro w3 t_ b_h; have o_r_h := b_r.lt; have l_hB_h : _ ≤ w2.heap.size := hB.size; replace b_r := t_.blk b_r (Nat.ne_of_lt b_r.lt); replace hB := t_.below hB l_hB_h; clear t_; (try simp only [Act.put, List.setIfInBounds_toArray, List.set_cons_zero, List.set_cons_succ]))
    | ((with_reducible refine at_storeX 5 26 ?_); refine L_store_all 26 _ _ (w2.heap.size) (hc (G)) _ 26 rfl rfl b_h (szH hz) rfl (one_hc _) ?_; clear b_h; intro w4 t_ b_h; replace b_r := t_.blk b_r (Nat.ne_of_lt o_r_h); replace hB := t_.below hB l_hB_h; clear t_)
    | ((with_reducible refine at_binD 19 ?_); refine L_give (by rfl) (g_ine 28 _ _ .i64 _ _ false rfl rfl (by decide) ?_); (try simp only [Act.put, List.setIfInBounds_toArray, List.set_cons_zero, List.set_cons_succ]))
    | ((with_reducible refine at_sliceD 24 ?_); refine L_give (by rfl) (g_sl_l _ _ s Y 48 rfl rfl hs48 hY.out ?_); (try simp only [Act.put, List.setIfInBounds_toArray, List.set_cons_zero, List.set_cons_succ]))
    | ((with_reducible refine at_callD 25 ?_); refine L_give (by rfl) (g_call 35 _ _ [.string (Y)] (kf35 _ _) rfl ((fields_any Y l E w4 hYs hl).mono ?_)); rintro e w5 ⟨v, rfl, p_l, t_⟩; refine ⟨_, rfl, ?_⟩; have o_r_p_l := b_r.lt; have o_h_p_l := b_h.lt; replace b_r := b_r.below t_ b_r.lt; replace b_h := b_h.below t_ b_h.lt; replace hB := hB.trans (t_.mono hB.size); clear t_; (try simp only [Act.put, List.setIfInBounds_toArray, List.set_cons_zero, List.set_cons_succ]))
    | ((with_reducible refine at_binD 29 ?_); refine L_give (by rfl) (g_ine 28 _ _ .i64 _ _ false rfl rfl (decide_eq_false (fun h => h hE.out)) ?_); (try simp only [Act.put, List.setIfInBounds_toArray, List.set_cons_zero, List.set_cons_succ]))
    | ((with_reducible refine at_loadD 32 26 ?_); refine L_give (by rfl) (g_load_all 26 _ (w2.heap.size) (hc (G)) 26 _ rfl (b_h) Try.underlying26 rfl (szH hz) ?_); (try simp only [Act.put, List.setIfInBounds_toArray, List.set_cons_zero, List.set_cons_succ]))
    | ((with_reducible refine at_storeX 2 26 ?_); refine L_store_all 26 _ _ (w.heap.size) (hc (G)) _ 26 rfl rfl b_r (szH hz) rfl (one_hc _) ?_; clear b_r; intro w6 t_ b_r; replace p_l := p_l.turn t_ o_r_p_l; replace b_h := t_.blk b_h (Nat.ne_of_gt o_r_h); replace hB := t_.below hB l_hB_r; clear t_))
  exact bodyPost_ret (results_blk_tmp2 rfl _ (hc G) (v) (.int .i64 0) _ rfl rfl rfl b_r Try.underlying26 rfl (szH hz)) rfl ⟨_, rfl, p_l.fis, hB⟩
theorem hread_any (s : ByteArray) (G : Hd) (l : List (Int × ByteArray)) (E : Int) (w : World) (hs2 : s.size ≤ 140737488355328) (h : Hid (rdp s = (G, l, E))) : Calls Try.prog 19 #[.string s] w fun e w' => ∃ v, e = .returned (.tuple #[.agg (hc G).toArray, v, .int .i64 E]) ∧ Fis w' v l ∧ Below w.heap.size w w' := by
  have h := h.out
  have hl := Lib.size_eq s
  unfold rdp at h
  split at h
  · rename_i c
    simp only [Prod.mk.injEq] at h
    obtain ⟨rfl, rfl, rfl⟩ := h
    exact read_0 s w (by omega)
  · rename_i c
    have ex : (s.extract 0 48).data.toList = s.data.toList.take 48 := by rw [ext_list]; rfl
    have es : (s.extract 0 48).size = 48 := by rw [ByteArray.size_extract]; omega
    have ey : (s.extract 48 s.size).data.toList = s.data.toList.drop 48 := by rw [ext_list]; exact List.take_of_length_le (by rw [List.length_drop]; omega)
    have esy : (s.extract 48 s.size).size ≤ 140737488355328 := by rw [ByteArray.size_extract]; omega
    split at h
    · rename_i hv
      have ht : Hid (tk (s.extract 0 48) = (dec (s.data.toList.take 48), 0)) := by show _ = _; unfold tk; rw [if_pos es, ex, if_pos hv]
      split at h
      · rename_i he
        simp only [Prod.mk.injEq] at h
        obtain ⟨rfl, rfl, rfl⟩ := h
        exact read_3 s _ w (by omega) (by omega) rfl _ _ rfl esy ht _ _ rfl (by show _ = _; rw [ey]; exact he) |> fun k => by rw [ey] at k; exact k
      · rename_i he
        simp only [Prod.mk.injEq] at h
        obtain ⟨rfl, rfl, rfl⟩ := h
        have k := read_2 s _ w (by omega) (by omega) rfl _ _ rfl esy ht _ _ rfl (by rw [ey]; exact he)
        rw [ey] at k
        exact k
    · rename_i hv
      simp only [Prod.mk.injEq] at h
      obtain ⟨rfl, rfl, rfl⟩ := h
      exact read_1 s _ w (by omega) (by omega) rfl (by show _ = _; unfold tk; rw [if_pos es, ex, if_neg hv])
set_option maxRecDepth 10000 in
set_option maxHeartbeats 2000000 in
theorem large_any (l : List (Int × ByteArray)) (ao : Option Addr) (cap : Nat) (w : World) (hn : l.length ≤ 140737488355328) (hf : Fis w (.slice ao l.length cap) l) : Calls Try.prog 18 #[.slice ao l.length cap] w fun e w' => (e = .returned (.bool true) ∨ e = .returned (.bool false)) ∧ Below w.heap.size w w' := by
  go_enter Try.func18, Try.ntmps18
  go_wp2
  go_loop [3, 7] (fun n i => ∃ (j : Nat) (m : Int), j ≤ l.length ∧ i = .int .i64 j ∧ n = .int .i64 m) (fun _ i => l.length - (intOf i).toNat)
  case atStart => exact ⟨0, 0, Nat.zero_le _, rfl, rfl⟩
  case round =>
    obtain ⟨j, m, hj, rfl, rfl⟩ := hrel
    by_cases hlt : j < l.length
    · have hltI : (j : Int) < ((l.length : Nat) : Int) := by omega
      obtain ⟨ao2, capx, hv2, hcs⟩ := hf
      obtain ⟨b, bo, hao, c0, c1⟩ := hcs j hlt
      obtain rfl : ao2 = ao := by injection hv2 with hv2; exact hv2.symm
      subst hao
      clear hcs hv2
      obtain ⟨f, hfE⟩ : ∃ f, l[j] = f := ⟨_, rfl⟩
      rw [hfE] at c0 c1
      clear hfE
      obtain ⟨z, hz⟩ : ∃ z : Int, Hid (IntKind.i64.wrap (4 + (f.2.size : Int)) = z) := ⟨_, rfl⟩
      obtain ⟨y, hy⟩ : ∃ y : Int, Hid (IntKind.i64.wrap (m + z) = y) := ⟨_, rfl⟩
      go_wp2_with (first
        | ((with_reducible refine at_binD 8 ?_); refine L_give (by rfl) (g_ilss 3 _ _ .i64 _ _ true rfl rfl (decide_eq_true hltI) ?_); (try simp only [Act.put, List.setIfInBounds_toArray, List.set_cons_zero, List.set_cons_succ]))
        | ((with_reducible refine at_ixD 13 ?_); refine L_give (by rfl) (g_ixF _ _ b bo _ _ j rfl rfl hlt ?_); (try simp only [Act.put, List.setIfInBounds_toArray, List.set_cons_zero, List.set_cons_succ]))
        | ((with_reducible refine at_fdD 14 ?_); refine L_give (by rfl) (g_fF1 _ b (bo + j * 2) rfl ?_); (try simp only [Act.put, List.setIfInBounds_toArray, List.set_cons_zero, List.set_cons_succ]))
        | ((with_reducible refine at_loadD 15 9 ?_); refine L_give (by rfl) (g_cell9 _ b (bo + j * 2 + 1) _ rfl c1 ?_); (try simp only [Act.put, List.setIfInBounds_toArray, List.set_cons_zero, List.set_cons_succ]))
        | ((with_reducible refine at_callD 16 ?_); refine L_give (by rfl) (g_slen _ f.2 _ rfl rfl ?_); (try simp only [Act.put, List.setIfInBounds_toArray, List.set_cons_zero, List.set_cons_succ]))
        | ((with_reducible refine at_binD 17 ?_); refine L_give (by rfl) (g_iadd 3 _ _ .i64 _ _ z rfl rfl hz.out ?_); (try simp only [Act.put, List.setIfInBounds_toArray, List.set_cons_zero, List.set_cons_succ]))
        | ((with_reducible refine at_binD 18 ?_); refine L_give (by rfl) (g_iadd 3 _ _ .i64 _ _ y rfl rfl hy.out ?_); (try simp only [Act.put, List.setIfInBounds_toArray, List.set_cons_zero, List.set_cons_succ])))
      go_round
      case rel => exact ⟨j + 1, y, hlt, by go_num, rfl⟩
      case measure => simp [intOf]; omega
    · have hltI : ¬ (j : Int) < ((l.length : Nat) : Int) := by omega
      obtain ⟨q, hq⟩ : ∃ q : Bool, decide ((2048 : Int) < m) = q := ⟨_, rfl⟩
      go_wp2_with (first
        | ((with_reducible refine at_binD 8 ?_); refine L_give (by rfl) (g_ilss 3 _ _ .i64 _ _ false rfl rfl (decide_eq_false hltI) ?_); (try simp only [Act.put, List.setIfInBounds_toArray, List.set_cons_zero, List.set_cons_succ]))
        | ((with_reducible refine at_binD 21 ?_); refine L_give (by rfl) (g_igtr 3 _ _ .i64 _ _ q rfl rfl hq ?_); (try simp only [Act.put, List.setIfInBounds_toArray, List.set_cons_zero, List.set_cons_succ])))
      go_ret
      cases q
      · exact ⟨.inr rfl, Below.refl _ _⟩
      · exact ⟨.inl rfl, Below.refl _ _⟩
/-- What is found. -/
def fnd (l : List (Int × ByteArray)) (k : Int) : ByteArray × Bool := match l.find? (fun f => decide (f.1 = k)) with
  | some f => (f.2, true)
  | none => (ByteArray.empty, false)
theorem fnd_yes (l : List (Int × ByteArray)) (k : Int) (j : Nat) (h : j < l.length) (hk : l[j].1 = k) (ho : fnd l k = fnd (l.drop j) k) : fnd l k = (l[j].2, true) := by
  rw [ho, List.drop_eq_getElem_cons h, fnd, List.find?_cons, decide_eq_true hk]
theorem fnd_step (l : List (Int × ByteArray)) (k : Int) (j : Nat) (h : j < l.length) (hk : ¬ l[j].1 = k) (ho : fnd l k = fnd (l.drop j) k) : fnd l k = fnd (l.drop (j + 1)) k := by
  rw [ho, List.drop_eq_getElem_cons h, fnd, List.find?_cons, decide_eq_false hk]; rfl
theorem fnd_none (l : List (Int × ByteArray)) (k : Int) (j : Nat) (h : ¬ j < l.length) (ho : fnd l k = fnd (l.drop j) k) : fnd l k = (ByteArray.empty, false) := by
  rw [ho, List.drop_eq_nil_of_le (by omega)]; simp [fnd]
set_option maxRecDepth 10000 in
set_option maxHeartbeats 2000000 in
theorem hfind_any (l : List (Int × ByteArray)) (k : Int) (D : ByteArray) (q : Bool) (ao : Option Addr) (cap : Nat) (w : World) (hn : l.length ≤ 140737488355328) (hf : Fis w (.slice ao l.length cap) l) (h : Hid (fnd l k = (D, q))) : Calls Try.prog 24 #[.slice ao l.length cap, .int .i64 k] w fun e w' => e = .returned (.tuple #[.string D, .bool q]) ∧ Below w.heap.size w w' := by
  go_enter Try.func24, Try.ntmps24
  go_wp2
  go_loopw [10] (fun i wr => ∃ j : Nat, j ≤ l.length ∧ i = .int .i64 j ∧ Hid (fnd l k = fnd (l.drop j) k) ∧ Below w.heap.size w wr) (fun i _ => l.length - (intOf i).toNat)
  case atStart => exact ⟨0, Nat.zero_le _, rfl, rfl, Below.refl _ _⟩
  case round =>
    obtain ⟨j, hj, rfl, ha, hB⟩ := hrel
    by_cases hlt : j < l.length
    · have hltI : (j : Int) < ((l.length : Nat) : Int) := by omega
      obtain ⟨ao2, capx, hv2, hcs⟩ := hf.below hB
      obtain ⟨b, bo, hao, c0, c1⟩ := hcs j hlt
      obtain rfl : ao2 = ao := by injection hv2 with hv2; exact hv2.symm
      subst hao
      clear hcs hv2
      obtain ⟨f, hfE⟩ : ∃ f, l[j] = f := ⟨_, rfl⟩
      rw [hfE] at c0 c1
      replace hfE : Hid (l[j] = f) := hfE
      by_cases hk : f.1 = k
      · have HE : Hid (f.2 = D ∧ true = q) := by
          have e := fnd_yes l k j hlt (by rw [hfE.out]; exact hk) ha.out
          rw [h.out, hfE.out] at e
          show _ ∧ _
          simpa [eq_comm] using e
        go_wp2_with (first
          | ((with_reducible refine at_binD 11 ?_); refine L_give (by rfl) (g_ilss 3 _ _ .i64 _ _ true rfl rfl (decide_eq_true hltI) ?_); (try simp only [Act.put, List.setIfInBounds_toArray, List.set_cons_zero, List.set_cons_succ]))
          | ((with_reducible refine at_ixD 12 ?_); refine L_give (by rfl) (g_ixF _ _ b bo _ _ j rfl rfl hlt ?_); (try simp only [Act.put, List.setIfInBounds_toArray, List.set_cons_zero, List.set_cons_succ]))
          | ((with_reducible refine at_loadD 13 48 ?_); refine L_give (by rfl) (g_loadF _ b (bo + j * 2) f rfl c0 c1 ?_); (try simp only [Act.put, List.setIfInBounds_toArray, List.set_cons_zero, List.set_cons_succ]))
          | ((with_reducible refine at_allocD 7 48 ?_); refine L_alloc 48 (fc (fz)) zeroF ?_; intro wr1 t_ b_f; have l_hB_f : _ ≤ wr.heap.size := hB.size; replace hB := t_.below hB l_hB_f; clear t_; (try simp only [Act.put, List.setIfInBounds_toArray, List.set_cons_zero, List.set_cons_succ]))
          | ((with_reducible refine at_storeX 7 48 ?_); refine L_store_all 48 _ _ (wr.heap.size) (fc (f)) _ 48 rfl rfl b_f (szF fz) rfl (one_fc _) ?_; clear b_f; intro wr2 t_ b_f; replace hB := t_.below hB l_hB_f; clear t_)
          | ((with_reducible refine at_loadD 15 3 ?_); refine L_give (by rfl) (g_cell3 _ (wr.heap.size) 0 _ rfl ((b_f).cell 0 _ rfl) ?_); (try simp only [Act.put, List.setIfInBounds_toArray, List.set_cons_zero, List.set_cons_succ]))
          | ((with_reducible refine at_binD 17 ?_); refine L_give (by rfl) (g_ieq 3 _ _ .i64 _ _ true rfl rfl (decide_eq_true hk) ?_); (try simp only [Act.put, List.setIfInBounds_toArray, List.set_cons_zero, List.set_cons_succ]))
          | ((with_reducible refine at_loadD 19 9 ?_); refine L_give (by rfl) (g_cell9 _ (wr.heap.size) 1 _ rfl ((b_f).cell 1 _ rfl) ?_); (try simp only [Act.put, List.setIfInBounds_toArray, List.set_cons_zero, List.set_cons_succ])))
        go_ret2
        exact ⟨by rw [← HE.out.1, ← HE.out.2]; rfl, hB⟩
      · have HE : Hid (fnd l k = fnd (l.drop (j + 1)) k) := fnd_step l k j hlt (by rw [hfE.out]; exact hk) ha.out
        go_wp2_with (first
          | ((with_reducible refine at_binD 11 ?_); refine L_give (by rfl) (g_ilss 3 _ _ .i64 _ _ true rfl rfl (decide_eq_true hltI) ?_); (try simp only [Act.put, List.setIfInBounds_toArray, List.set_cons_zero, List.set_cons_succ]))
          | ((with_reducible refine at_ixD 12 ?_); refine L_give (by rfl) (g_ixF _ _ b bo _ _ j rfl rfl hlt ?_); (try simp only [Act.put, List.setIfInBounds_toArray, List.set_cons_zero, List.set_cons_succ]))
          | ((with_reducible refine at_loadD 13 48 ?_); refine L_give (by rfl) (g_loadF _ b (bo + j * 2) f rfl c0 c1 ?_); (try simp only [Act.put, List.setIfInBounds_toArray, List.set_cons_zero, List.set_cons_succ]))
          | ((with_reducible refine at_allocD 7 48 ?_); refine L_alloc 48 (fc (fz)) zeroF ?_; intro wr1 t_ b_f; have l_hB_f : _ ≤ wr.heap.size := hB.size; replace hB := t_.below hB l_hB_f; clear t_; (try simp only [Act.put, List.setIfInBounds_toArray, List.set_cons_zero, List.set_cons_succ]))
          | ((with_reducible refine at_storeX 7 48 ?_); refine L_store_all 48 _ _ (wr.heap.size) (fc (f)) _ 48 rfl rfl b_f (szF fz) rfl (one_fc _) ?_; clear b_f; intro wr2 t_ b_f; replace hB := t_.below hB l_hB_f; clear t_)
          | ((with_reducible refine at_loadD 15 3 ?_); refine L_give (by rfl) (g_cell3 _ (wr.heap.size) 0 _ rfl ((b_f).cell 0 _ rfl) ?_); (try simp only [Act.put, List.setIfInBounds_toArray, List.set_cons_zero, List.set_cons_succ]))
          | ((with_reducible refine at_binD 17 ?_); refine L_give (by rfl) (g_ieq 3 _ _ .i64 _ _ false rfl rfl (decide_eq_false hk) ?_); (try simp only [Act.put, List.setIfInBounds_toArray, List.set_cons_zero, List.set_cons_succ])))
        go_roundw
        case rel => exact ⟨j + 1, hlt, by go_num, HE, hB⟩
        case measure => simp [intOf]; omega
    · have hltI : ¬ (j : Int) < ((l.length : Nat) : Int) := by omega
      have HE : Hid (ByteArray.empty = D ∧ false = q) := by
        have e := fnd_none l k j hlt ha.out
        rw [h.out] at e
        show _ ∧ _
        simpa [eq_comm] using e
      go_wp2_with ((with_reducible refine at_binD 11 ?_); refine L_give (by rfl) (g_ilss 3 _ _ .i64 _ _ false rfl rfl (decide_eq_false hltI) ?_); (try simp only [Act.put, List.setIfInBounds_toArray, List.set_cons_zero, List.set_cons_succ]))
      go_ret2
      exact ⟨by rw [← HE.out.1, ← HE.out.2]; rfl, hB⟩
set_option maxRecDepth 10000 in
set_option maxHeartbeats 2000000 in
theorem same_any (l : List (Int × ByteArray)) (ao ap : Option Addr) (cap cap2 : Nat) (w : World) (hn : l.length ≤ 140737488355328) (hf : Fis w (.slice ao l.length cap) l) (hg : Fis w (.slice ap l.length cap2) l) : Calls Try.prog 23 #[.slice ao l.length cap, .slice ap l.length cap2] w fun e w' => e = .returned (.bool true) ∧ Below w.heap.size w w' := by
  go_enter Try.func23, Try.ntmps23
  go_wp2
  go_loopw [5] (fun i wr => ∃ j : Nat, j ≤ l.length ∧ i = .int .i64 j ∧ Below w.heap.size w wr) (fun i _ => l.length - (intOf i).toNat)
  case atStart => exact ⟨0, Nat.zero_le _, rfl, Below.refl _ _⟩
  case round =>
    obtain ⟨j, hj, rfl, hB⟩ := hrel
    by_cases hlt : j < l.length
    · have hltI : (j : Int) < ((l.length : Nat) : Int) := by omega
      obtain ⟨ao2, capx, hv2, hcs⟩ := hf.below hB
      obtain ⟨b, bo, hao, c0, c1⟩ := hcs j hlt
      obtain rfl : ao2 = ao := by injection hv2 with hv2; exact hv2.symm
      subst hao
      clear hcs hv2
      obtain ⟨yao2, ycapx, yhv2, yhcs⟩ := hg.below hB
      obtain ⟨c, co, yhao, yc0, yc1⟩ := yhcs j hlt
      obtain rfl : yao2 = ap := by injection yhv2 with hv2; exact hv2.symm
      subst yhao
      clear yhcs yhv2
      obtain ⟨f, hfE⟩ : ∃ f, l[j] = f := ⟨_, rfl⟩
      rw [hfE] at c0 c1 yc0 yc1
      clear hfE
      go_wp2_with (first
        | (refine stop_region 6 ?_; intro X hX)
        | ((with_reducible refine at_binD 14 ?_); refine L_give (by rfl) (g_ilss 3 _ _ .i64 _ _ true rfl rfl (decide_eq_true hltI) ?_); (try simp only [Act.put, List.setIfInBounds_toArray, List.set_cons_zero, List.set_cons_succ])))
      refine hX.out ?_
      clear hX X
      refine wp_region_fixed (by kernel_rfl) (by kernel_rfl) [.slice (some ⟨b, bo, none⟩) l.length cap, .int .i64 (j : Int), .pointer (some ⟨b, bo + j * 2, none⟩), .agg (fc f).toArray, .slice (some ⟨c, co, none⟩) l.length cap2, .int .i64 (j : Int), .pointer (some ⟨c, co + j * 2, none⟩), .agg (fc f).toArray, .bool false] (by rfl) (fun wx => ∀ p, wx.cell? p = wr.cell? p ∧ Below w.heap.size w wx) (fun p => ⟨rfl, hB.drew⟩) ?_ ?_
      · simp only [fullL, Act.put, List.setIfInBounds_toArray, List.set_cons_succ, List.set_cons_zero]
        refine ⟨?_, ?_, ?_, ?_, ?_, ?_, ?_, ?_, ?_, trivial⟩
        · exact fun wx hw => gw rfl (g_move _ _ rfl ⟨rfl, hw⟩)
        · exact fun wx hw => gw rfl (g_move _ _ rfl ⟨rfl, hw⟩)
        · exact fun wx hw => gw rfl (g_ixF _ _ b bo _ _ j rfl rfl hlt ⟨rfl, hw⟩)
        · exact fun wx hw => gw rfl (g_loadF _ b (bo + j * 2) f rfl (by rw [(hw _).1]; exact c0) (by rw [(hw _).1]; exact c1) ⟨rfl, hw⟩)
        · exact fun wx hw => gw rfl (g_move _ _ rfl ⟨rfl, hw⟩)
        · exact fun wx hw => gw rfl (g_move _ _ rfl ⟨rfl, hw⟩)
        · exact fun wx hw => gw rfl (g_ixF _ _ c co _ _ j rfl rfl hlt ⟨rfl, hw⟩)
        · exact fun wx hw => gw rfl (g_loadF _ c (co + j * 2) f rfl (by rw [(hw _).1]; exact yc0) (by rw [(hw _).1]; exact yc1) ⟨rfl, hw⟩)
        · exact fun wx hw => gw rfl (g_neqF _ _ f rfl rfl ⟨rfl, hw⟩)
      · simp only [fullL, Act.put, List.setIfInBounds_toArray, List.set_cons_succ, List.set_cons_zero]
        intro w2 hw
        have hB2 := (hw ⟨0, 0, none⟩).2
        clear hw hB
        go_wp2
        go_roundw
        case rel => exact ⟨j + 1, hlt, by go_num, hB2⟩
        case measure => simp [intOf]; omega
    · have hltI : ¬ (j : Int) < ((l.length : Nat) : Int) := by omega
      go_wp2_with ((with_reducible refine at_binD 14 ?_); refine L_give (by rfl) (g_ilss 3 _ _ .i64 _ _ false rfl rfl (decide_eq_false hltI) ?_); (try simp only [Act.put, List.setIfInBounds_toArray, List.set_cons_zero, List.set_cons_succ]))
      go_ret
      exact ⟨rfl, hB⟩
end Go.Proofs.Yteieacamokoejaa
