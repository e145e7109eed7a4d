/- What the reference's Read answers: as the program's does. -/
import Derived.Test.YteieacamokoejaaRf3
namespace Go.Proofs.Yteieacamokoejaa
open Go Go.RowKit
set_option linter.unusedVariables false
set_option linter.unusedSimpArgs false

theorem run_bsl0 (w : World) : (Instr.buildSlice 35 0 #[]).run Try.prog w = .ok (.slice (some ⟨w.heap.size, 0, none⟩) 0 0) (w.alloc (.cells #[] 48)) := by
  go_simp
section
variable {P : Program} {ops : Array Oper} {rest : List Oper} {a : Act} {w : World} {Q : Exit → Act → World → Prop} {dst : Option Tmp} {ty yt : TypeId} {pos : String} {aft : Array Edge} {gd : Option (Nat × Bool)} {K : Value → World → Prop}
theorem g_bsl0 (hk : ∀ w', Turn w.heap.size w w' → OF w.heap.size w' (.slice (some ⟨w.heap.size, 0, none⟩) 0 0) [] → K (.slice (some ⟨w.heap.size, 0, none⟩) 0 0) w') : gives Try.prog ⟨dst, .buildSlice 35 0 #[], ty, pos, aft, gd⟩ a w K := by
  obtain ⟨h1, _⟩ := turn_alloc w [] 48
  unfold gives
  simp only [execOp, List.map_toArray, List.map_nil, Sem.run_bind, run_bsl0, Result.andThen_ok, Sem.run_pure]
  exact hk _ h1 (World.ownsRow_made w #[] 0 (Nat.le_refl _) (Nat.zero_le _) rfl)
end
theorem blk_grown {w w' : World} {b B : Nat} {cs : List Value} {t : TypeId} {v : Value} {l : List (Int × ByteArray)} (h : Blk w b cs t) (hg : w.grownBy w' v.ownBlock) (ho : OF B w v l) (hb : b < B) : Blk w' b cs t := by
  have e := hg.block b h.lt (fun e => by have := (ho.lt b e.symm).1; omega)
  unfold Blk at *
  rw [e]; exact h
theorem nm_drop (s : List UInt8) (k i n : Nat) : nm (s.drop k) i n = nm s (k + i) n := by
  unfold nm; rw [List.drop_drop]
theorem wb_snoc (G : Hd) (acc : List (Int × ByteArray)) (f : Int × ByteArray) : wb G (acc ++ [f]) = wb G acc ++ fb f := by
  simp [wb, List.append_assoc]
theorem prefix_at (s W : List UInt8) (k : Nat) (x : List UInt8) (hW : W = s.take k ++ x) : W <+: s ↔ x <+: s.drop k := by
  rw [hW]
  conv => lhs; rhs; rw [← List.take_append_drop k s]
  exact List.prefix_append_right_inj _
set_option maxRecDepth 10000 in
set_option maxHeartbeats 2000000 in
theorem rread_0 (s : ByteArray) (w : World) (c0 : (s.size : Int) < 48) : Calls Try.prog 20 #[.string s] w fun e w' => ∃ v, e = .returned (.tuple #[.agg (hc hz).toArray, v, .int .i64 5]) ∧ Fis w' v [] ∧ Below w.heap.size w w' := by
  go_enter Try.func20, Try.ntmps20
  go_wp2_with (first
    | ((with_reducible refine at_allocD 2 26 ?_); refine L_alloc 26 (hc (hz)) zeroH ?_; intro w1 t_ b_r; have l_hB_r : w.heap.size ≤ w.heap.size := Nat.le_refl _; have hB : Below w.heap.size w w1 := t_.below (Below.refl _ _) (Nat.le_refl _); clear t_; (try simp only [Act.put, List.setIfInBounds_toArray, List.set_cons_zero, List.set_cons_succ]))
    | ((with_reducible refine at_callD 13 ?_); refine L_give (by rfl) (g_slen _ _ _ rfl rfl ?_); (try simp only [Act.put, List.setIfInBounds_toArray, List.set_cons_zero, List.set_cons_succ]))
    | ((with_reducible refine at_binD 14 ?_); refine L_give (by rfl) (g_ilss 3 _ _ .i64 _ _ true rfl rfl (decide_eq_true c0) ?_); (try simp only [Act.put, List.setIfInBounds_toArray, List.set_cons_zero, List.set_cons_succ]))
    | ((with_reducible refine at_bld 15 ?_); refine L_give (by rfl) (g_bldH0 ?_); (try simp only [Act.put, List.setIfInBounds_toArray, List.set_cons_zero, List.set_cons_succ]))
    | ((with_reducible refine at_storeX 2 26 ?_); refine L_store_all 26 _ _ (w.heap.size) (hc (hz)) _ 26 rfl rfl b_r (szH hz) rfl (one_hc _) ?_; clear b_r; intro w2 t_ b_r; replace hB := t_.below hB l_hB_r; clear t_))
  exact bodyPost_ret (results_blk_tmp2 rfl _ (hc hz) (.slice none 0 0) (.int .i64 5) _ rfl rfl rfl b_r Try.underlying26 rfl (szH hz)) rfl ⟨_, rfl, Fis.nil _, hB⟩
set_option maxRecDepth 10000 in
set_option maxHeartbeats 2000000 in
theorem rread_1 (s X : ByteArray) (w : World) (c0 : ¬ (s.size : Int) < 48) (hs48 : 48 ≤ s.size) (hX : Hid (s.extract 0 48 = X)) (ht : Hid (tk X = (hz, 2))) : Calls Try.prog 20 #[.string s] w fun e w' => ∃ v, e = .returned (.tuple #[.agg (hc hz).toArray, v, .int .i64 2]) ∧ Fis w' v [] ∧ Below w.heap.size w w' := by
  go_enter Try.func20, Try.ntmps20
  go_wp2_with (first
    | ((with_reducible refine at_allocD 2 26 ?_); refine L_alloc 26 (hc (hz)) zeroH ?_; intro w1 t_ b_r; have l_hB_r : w.heap.size ≤ w.heap.size := Nat.le_refl _; have hB : Below w.heap.size w w1 := t_.below (Below.refl _ _) (Nat.le_refl _); clear t_; (try simp only [Act.put, List.setIfInBounds_toArray, List.set_cons_zero, List.set_cons_succ]))
    | ((with_reducible refine at_callD 13 ?_); refine L_give (by rfl) (g_slen _ _ _ rfl rfl ?_); (try simp only [Act.put, List.setIfInBounds_toArray, List.set_cons_zero, List.set_cons_succ]))
    | ((with_reducible refine at_binD 14 ?_); refine L_give (by rfl) (g_ilss 3 _ _ .i64 _ _ false rfl rfl (decide_eq_false c0) ?_); (try simp only [Act.put, List.setIfInBounds_toArray, List.set_cons_zero, List.set_cons_succ]))
    | ((with_reducible refine at_sliceD 18 ?_); refine L_give (by rfl) (g_sl_h _ _ s X 48 rfl rfl hs48 hX.out ?_); (try simp only [Act.put, List.setIfInBounds_toArray, List.set_cons_zero, List.set_cons_succ]))
    | ((with_reducible refine at_callD 19 ?_); refine L_give (by rfl) (g_call 15 _ _ [.string (X)] (kf15 _ _) rfl ((rhtake_any X hz 2 w1 ht).mono ?_)); rintro e w2 ⟨rfl, t_⟩; refine ⟨_, rfl, ?_⟩; replace b_r := b_r.below t_ b_r.lt; replace hB := hB.trans (t_.mono hB.size); clear t_; (try simp only [Act.put, List.setIfInBounds_toArray, List.set_cons_zero, List.set_cons_succ]))
    | ((with_reducible refine at_allocD 5 26 ?_); refine L_alloc 26 (hc (hz)) zeroH ?_; intro w3 t_ b_h; have o_r_h := b_r.lt; have l_hB_h : _ ≤ w2.heap.size := hB.size; replace b_r := t_.blk b_r (Nat.ne_of_lt b_r.lt); replace hB := t_.below hB l_hB_h; clear t_; (try simp only [Act.put, List.setIfInBounds_toArray, List.set_cons_zero, List.set_cons_succ]))
    | ((with_reducible refine at_storeX 5 26 ?_); refine L_store_all 26 _ _ (w2.heap.size) (hc (hz)) _ 26 rfl rfl b_h (szH hz) rfl (one_hc _) ?_; clear b_h; intro w4 t_ b_h; replace b_r := t_.blk b_r (Nat.ne_of_lt o_r_h); replace hB := t_.below hB l_hB_h; clear t_)
    | ((with_reducible refine at_binD 23 ?_); refine L_give (by rfl) (g_ine 28 _ _ .i64 _ _ true rfl rfl (by decide) ?_); (try simp only [Act.put, List.setIfInBounds_toArray, List.set_cons_zero, List.set_cons_succ]))
    | ((with_reducible refine at_bld 24 ?_); refine L_give (by rfl) (g_bldH0 ?_); (try simp only [Act.put, List.setIfInBounds_toArray, List.set_cons_zero, List.set_cons_succ]))
    | ((with_reducible refine at_storeX 2 26 ?_); refine L_store_all 26 _ _ (w.heap.size) (hc (hz)) _ 26 rfl rfl b_r (szH hz) rfl (one_hc _) ?_; clear b_r; intro w5 t_ b_r; replace b_h := t_.blk b_h (Nat.ne_of_gt o_r_h); replace hB := t_.below hB l_hB_r; clear t_))
  exact bodyPost_ret (results_blk_tmp2 rfl _ (hc hz) (.slice none 0 0) (.int .i64 2) _ rfl rfl rfl b_r Try.underlying26 rfl (szH hz)) rfl ⟨_, rfl, Fis.nil _, hB⟩
set_option maxRecDepth 10000 in
set_option maxHeartbeats 2000000 in
theorem rread_2 (s X : ByteArray) (w : World) (c0 : ¬ (s.size : Int) < 48) (hs48 : 48 ≤ s.size) (hX : Hid (s.extract 0 48 = X)) (hs2 : s.size ≤ 140737488355328) (G G2 : Hd) (hi : InH G) (hmG : Hid (may G = true)) (hG : Hid (s.data.toList.take 48 = hb G)) (ht : Hid (tk X = (G, 0))) (l : List (Int × ByteArray)) (E : Int) (hl : Hid (fl 16 (s.data.toList.drop 48) = (l, E))) (hE0 : Hid (E = 0 → G2 = G)) (hE1 : Hid (E ≠ 0 → G2 = hz)) : Calls Try.prog 20 #[.string s] w fun e w' => ∃ v, e = .returned (.tuple #[.agg (hc G2).toArray, v, .int .i64 E]) ∧ Fis w' v l ∧ Below w.heap.size w w' := by
  go_enter Try.func20, Try.ntmps20
  go_wp2_with (first
    | ((with_reducible refine at_allocD 2 26 ?_); refine L_alloc 26 (hc (hz)) zeroH ?_; intro w1 t_ b_r; have l_hB_r : w.heap.size ≤ w.heap.size := Nat.le_refl _; have hB : Below w.heap.size w w1 := t_.below (Below.refl _ _) (Nat.le_refl _); clear t_; (try simp only [Act.put, List.setIfInBounds_toArray, List.set_cons_zero, List.set_cons_succ]))
    | ((with_reducible refine at_callD 13 ?_); refine L_give (by rfl) (g_slen _ _ _ rfl rfl ?_); (try simp only [Act.put, List.setIfInBounds_toArray, List.set_cons_zero, List.set_cons_succ]))
    | ((with_reducible refine at_binD 14 ?_); refine L_give (by rfl) (g_ilss 3 _ _ .i64 _ _ false rfl rfl (decide_eq_false c0) ?_); (try simp only [Act.put, List.setIfInBounds_toArray, List.set_cons_zero, List.set_cons_succ]))
    | ((with_reducible refine at_sliceD 18 ?_); refine L_give (by rfl) (g_sl_h _ _ s X 48 rfl rfl hs48 hX.out ?_); (try simp only [Act.put, List.setIfInBounds_toArray, List.set_cons_zero, List.set_cons_succ]))
    | ((with_reducible refine at_callD 19 ?_); refine L_give (by rfl) (g_call 15 _ _ [.string (X)] (kf15 _ _) rfl ((rhtake_any X G 0 w1 ht).mono ?_)); rintro e w2 ⟨rfl, t_⟩; refine ⟨_, rfl, ?_⟩; replace b_r := b_r.below t_ b_r.lt; replace hB := hB.trans (t_.mono hB.size); clear t_; (try simp only [Act.put, List.setIfInBounds_toArray, List.set_cons_zero, List.set_cons_succ]))
    | ((with_reducible refine at_allocD 5 26 ?_); refine L_alloc 26 (hc (hz)) zeroH ?_; intro w3 t_ b_h; have o_r_h := b_r.lt; have l_hB_h : _ ≤ w2.heap.size := hB.size; replace b_r := t_.blk b_r (Nat.ne_of_lt b_r.lt); replace hB := t_.below hB l_hB_h; clear t_; (try simp only [Act.put, List.setIfInBounds_toArray, List.set_cons_zero, List.set_cons_succ]))
    | ((with_reducible refine at_storeX 5 26 ?_); refine L_store_all 26 _ _ (w2.heap.size) (hc (G)) _ 26 rfl rfl b_h (szH hz) rfl (one_hc _) ?_; clear b_h; intro w4 t_ b_h; replace b_r := t_.blk b_r (Nat.ne_of_lt o_r_h); replace hB := t_.below hB l_hB_h; clear t_)
    | ((with_reducible refine at_binD 23 ?_); refine L_give (by rfl) (g_ine 28 _ _ .i64 _ _ false rfl rfl (by decide) ?_); (try simp only [Act.put, List.setIfInBounds_toArray, List.set_cons_zero, List.set_cons_succ]))
    | ((with_reducible refine at_bslD 26 ?_); refine L_give (by rfl) (g_bsl0 ?_); intro w5 t_ hO; have B_r := b_r.lt; have B_h := b_h.lt; replace b_r := t_.blk b_r (Nat.ne_of_lt b_r.lt); replace b_h := t_.blk b_h (Nat.ne_of_lt b_h.lt); replace hB := t_.below hB hB.size; have hBs : w4.heap.size ≤ w5.heap.size := t_.size; clear t_; (try simp only [Act.put, List.setIfInBounds_toArray, List.set_cons_zero, List.set_cons_succ])))
  obtain ⟨B0, hB0⟩ : ∃ B0, w4.heap.size = B0 := ⟨_, rfl⟩
  obtain ⟨H0, hH0⟩ : ∃ H0, w2.heap.size = H0 := ⟨_, rfl⟩
  rw [hB0] at hO B_r B_h hBs ⊢
  rw [hH0] at b_h o_r_h l_hB_h B_h ⊢
  clear hB0 hH0
  go_loopw [7, 8] (fun l7 a8 wr => ∃ (acc : List (Int × ByteArray)) (k : Nat), a8 = .int .i64 k ∧ k ≤ s.size ∧ acc.length ≤ 16 ∧ Hid (s.data.toList.take k = wb G acc) ∧ Hid (∀ f ∈ acc, FMays f) ∧ Hid (fl 16 (s.data.toList.drop 48) = glue acc (fl (16 - acc.length) (s.data.toList.drop k))) ∧ OF B0 wr l7 acc ∧ Blk wr w.heap.size (hc hz) 26 ∧ Blk wr H0 (hc G) 26 ∧ Below w.heap.size w wr ∧ B0 ≤ wr.heap.size) (fun _ a8 _ => s.size - (intOf a8).toNat)
  case atStart => exact ⟨[], 48, rfl, hs48, Nat.zero_le _, by show _ = _; rw [hG.out]; simp [wb], (fun f hf => by simp at hf), by show _ = _; rw [glue_nil _ (fl_err _ _)]; rfl, hO, b_r, b_h, hB, hBs⟩
  case round =>
    clear hO b_r b_h hB hBs
    obtain ⟨acc, k, rfl, hk, ha, hW, hF, hfl, hO, b_r, b_h, hB, hBs⟩ := hrel
    obtain ⟨ao, cap, rfl⟩ := hO.len
    by_cases hlt : ¬ k < s.size
    · have hkI : ¬ (k : Int) < (s.size : Int) := by (have hsl := Lib.size_eq s; omega)
      have HE : Hid (acc = l ∧ 0 = E) := by
        have q := hfl.out
        rw [hl.out, List.drop_eq_nil_of_le (by (have hsl := Lib.size_eq s; omega)), fl_none] at q
        show _ ∧ _
        simpa [glue, eq_comm] using q
      have hGG : Hid (G2 = G) := hE0.out HE.out.2.symm
      have p_l := hO.fib
      have o_r_p_l := B_r
      go_wp2_with (first
        | ((with_reducible refine at_binD 30 ?_); refine L_give (by rfl) (g_ilss 3 _ _ .i64 _ _ false rfl rfl (decide_eq_false hkI) ?_); (try simp only [Act.put, List.setIfInBounds_toArray, List.set_cons_zero, List.set_cons_succ]))
        | ((with_reducible refine at_loadD 98 26 ?_); refine L_give (by rfl) (g_load_all 26 _ (H0) (hc (G)) 26 _ rfl (b_h) Try.underlying26 rfl (szH hz) ?_); (try simp only [Act.put, List.setIfInBounds_toArray, List.set_cons_zero, List.set_cons_succ]))
        | ((with_reducible refine at_storeX 2 26 ?_); refine L_store_all 26 _ _ (w.heap.size) (hc (G)) _ 26 rfl rfl b_r (szH hz) rfl (one_hc _) ?_; clear b_r; intro wr1 t_ b_r; replace p_l := p_l.turn t_ o_r_p_l; replace b_h := t_.blk b_h (Nat.ne_of_gt o_r_h); replace hB := t_.below hB l_hB_r; clear t_))
      rw [← HE.out.2, hGG.out, ← HE.out.1]
      exact bodyPost_ret (results_blk_tmp2 rfl _ (hc G) (.slice ao acc.length cap) (.int .i64 0) _ rfl rfl rfl b_r Try.underlying26 rfl (szH hz)) rfl ⟨_, rfl, p_l.fis, hB⟩
    have hkI : (k : Int) < (s.size : Int) := by (have hsl := Lib.size_eq s; omega)
    have hne : s.data.toList.drop k ≠ [] := by intro e; have := congrArg List.length e; rw [List.length_drop] at this; simp at this; (have hsl := Lib.size_eq s; omega)
    by_cases h16 : ((acc.length : Nat) : Int) = 16
    · skip
      have HE : Hid (l = [] ∧ (4 : Int) = E) := by
        have q := hfl.out
        rw [hl.out, show 16 - acc.length = 0 by (have hsl := Lib.size_eq s; omega), fl_many _ hne, glue_bad _ _ (by decide)] at q
        show _ ∧ _
        simpa [eq_comm] using q
      have hGG : Hid (G2 = hz) := hE1.out (by rw [← HE.out.2]; decide)
      go_wp2_with (first
        | ((with_reducible refine at_binD 30 ?_); refine L_give (by rfl) (g_ilss 3 _ _ .i64 _ _ true rfl rfl (decide_eq_true hkI) ?_); (try simp only [Act.put, List.setIfInBounds_toArray, List.set_cons_zero, List.set_cons_succ]))
        | ((with_reducible refine at_binD 33 ?_); refine L_give (by rfl) (g_ieq 3 _ _ .i64 _ _ true rfl rfl (decide_eq_true h16) ?_); (try simp only [Act.put, List.setIfInBounds_toArray, List.set_cons_zero, List.set_cons_succ]))
        | ((with_reducible refine at_bld 34 ?_); refine L_give (by rfl) (g_bldH0 ?_); (try simp only [Act.put, List.setIfInBounds_toArray, List.set_cons_zero, List.set_cons_succ]))
        | ((with_reducible refine at_storeX 2 26 ?_); refine L_store_all 26 _ _ (w.heap.size) (hc (hz)) _ 26 rfl rfl b_r (szH hz) rfl (one_hc _) ?_; clear b_r; intro wr1 t_ b_r; replace b_h := t_.blk b_h (Nat.ne_of_gt o_r_h); replace hB := t_.below hB l_hB_r; clear t_))
      rw [← HE.out.2, hGG.out, HE.out.1]
      exact bodyPost_ret (results_blk_tmp2 rfl _ (hc hz) (.slice none 0 0) (.int .i64 4) _ rfl rfl rfl b_r Try.underlying26 rfl (szH hz)) rfl ⟨_, rfl, Fis.nil _, hB⟩
    have hno : Hid (¬ Cuts (s.data.toList.drop k) → l = [] ∧ (2 : Int) = E) := by
      intro hc
      have q := hfl.out
      rw [hl.out, show 16 - acc.length = (15 - acc.length) + 1 by (have hsl := Lib.size_eq s; omega), fl_no _ _ hne hc, glue_bad _ _ (by decide)] at q
      simpa [eq_comm] using q
    obtain ⟨k4, hk4⟩ : ∃ k4 : Int, Hid (IntKind.i64.wrap ((k : Int) + 4) = k4) := ⟨_, rfl⟩
    have hk4E : Hid (k4 = (k : Int) + 4) := by show _ = _; rw [← hk4.out]; exact wrap_i64 _ (by (have hsl := Lib.size_eq s; omega)) (by (have hsl := Lib.size_eq s; omega))
    by_cases h4 : (s.size : Int) < k4
    · skip
      have HE : Hid (l = [] ∧ (2 : Int) = E) := by
        exact hno.out (fun hc => by have := hc.1; rw [List.length_drop] at this; have := hk4E.out; (have hsl := Lib.size_eq s; omega))
      have hGG : Hid (G2 = hz) := hE1.out (by rw [← HE.out.2]; decide)
      go_wp2_with (first
        | ((with_reducible refine at_binD 30 ?_); refine L_give (by rfl) (g_ilss 3 _ _ .i64 _ _ true rfl rfl (decide_eq_true hkI) ?_); (try simp only [Act.put, List.setIfInBounds_toArray, List.set_cons_zero, List.set_cons_succ]))
        | ((with_reducible refine at_binD 33 ?_); refine L_give (by rfl) (g_ieq 3 _ _ .i64 _ _ false rfl rfl (decide_eq_false h16) ?_); (try simp only [Act.put, List.setIfInBounds_toArray, List.set_cons_zero, List.set_cons_succ]))
        | ((with_reducible refine at_binD 36 ?_); refine L_give (by rfl) (g_iadd 3 _ _ .i64 _ _ k4 rfl rfl hk4.out ?_); (try simp only [Act.put, List.setIfInBounds_toArray, List.set_cons_zero, List.set_cons_succ]))
        | ((with_reducible refine at_binD 39 ?_); refine L_give (by rfl) (g_igtr 3 _ _ .i64 _ _ true rfl rfl (decide_eq_true h4) ?_); (try simp only [Act.put, List.setIfInBounds_toArray, List.set_cons_zero, List.set_cons_succ]))
        | ((with_reducible refine at_bld 40 ?_); refine L_give (by rfl) (g_bldH0 ?_); (try simp only [Act.put, List.setIfInBounds_toArray, List.set_cons_zero, List.set_cons_succ]))
        | ((with_reducible refine at_storeX 2 26 ?_); refine L_store_all 26 _ _ (w.heap.size) (hc (hz)) _ 26 rfl rfl b_r (szH hz) rfl (one_hc _) ?_; clear b_r; intro wr1 t_ b_r; replace b_h := t_.blk b_h (Nat.ne_of_gt o_r_h); replace hB := t_.below hB l_hB_r; clear t_))
      rw [← HE.out.2, hGG.out, HE.out.1]
      exact bodyPost_ret (results_blk_tmp2 rfl _ (hc hz) (.slice none 0 0) (.int .i64 2) _ rfl rfl rfl b_r Try.underlying26 rfl (szH hz)) rfl ⟨_, rfl, Fis.nil _, hB⟩
    have hk4s : k + 4 ≤ s.size := by have := hk4E.out; (have hsl := Lib.size_eq s; omega)
    have h2I : Hid (IntKind.i64.wrap ((k : Int) + 2) = ((k + 2 : Nat) : Int)) := by show _ = _; rw [wrap_i64 _ (by (have hsl := Lib.size_eq s; omega)) (by (have hsl := Lib.size_eq s; omega))]; (have hsl := Lib.size_eq s; omega)
    obtain ⟨n, hn⟩ : ∃ n : Nat, nm s.data.toList (k + 2) 2 = n := ⟨_, rfl⟩
    have hnl : n < 65536 := by rw [← hn]; exact nm_lt _ _ 2
    replace hn : Hid (((nm s.data.toList (k + 2) 2 : Nat) : Int) = (n : Int)) := by show _ = _; rw [hn]
    have hnw : Hid (IntKind.i64.wrap (n : Int) = (n : Int)) := wrap_i64 _ (by (have hsl := Lib.size_eq s; omega)) (by (have hsl := Lib.size_eq s; omega))
    have hnd : Hid (nm (s.data.toList.drop k) 2 2 = n) := by show _ = _; rw [nm_drop]; have := hn.out; (have hsl := Lib.size_eq s; omega)
    by_cases hn4 : (n : Int) < 4
    · skip
      have HE : Hid (l = [] ∧ (2 : Int) = E) := by
        exact hno.out (fun hc => by have := hc.2.1.1; rw [hnd.out] at this; (have hsl := Lib.size_eq s; omega))
      have hGG : Hid (G2 = hz) := hE1.out (by rw [← HE.out.2]; decide)
      go_wp2_with (first
        | ((with_reducible refine at_binD 30 ?_); refine L_give (by rfl) (g_ilss 3 _ _ .i64 _ _ true rfl rfl (decide_eq_true hkI) ?_); (try simp only [Act.put, List.setIfInBounds_toArray, List.set_cons_zero, List.set_cons_succ]))
        | ((with_reducible refine at_binD 33 ?_); refine L_give (by rfl) (g_ieq 3 _ _ .i64 _ _ false rfl rfl (decide_eq_false h16) ?_); (try simp only [Act.put, List.setIfInBounds_toArray, List.set_cons_zero, List.set_cons_succ]))
        | ((with_reducible refine at_binD 36 ?_); refine L_give (by rfl) (g_iadd 3 _ _ .i64 _ _ k4 rfl rfl hk4.out ?_); (try simp only [Act.put, List.setIfInBounds_toArray, List.set_cons_zero, List.set_cons_succ]))
        | ((with_reducible refine at_binD 39 ?_); refine L_give (by rfl) (g_igtr 3 _ _ .i64 _ _ false rfl rfl (decide_eq_false h4) ?_); (try simp only [Act.put, List.setIfInBounds_toArray, List.set_cons_zero, List.set_cons_succ]))
        | ((with_reducible refine at_binD 43 ?_); refine L_give (by rfl) (g_iadd 3 _ _ .i64 _ _ ((k + 2 : Nat) : Int) rfl rfl h2I.out ?_); (try simp only [Act.put, List.setIfInBounds_toArray, List.set_cons_zero, List.set_cons_succ]))
        | ((with_reducible refine at_callD 44 ?_); refine L_give (by rfl) (g_call 33 _ _ [.string s, .int .i64 ((k + 2 : Nat) : Int), .int .i64 ((2 : Nat) : Int)] (kf33 _ _) rfl ((rnum_any s (k + 2) 2 (n : Int) _ (by (have hsl := Lib.size_eq s; omega)) hs2 (by decide) hn).mono ?_)); rintro e w_ ⟨rfl, hW_⟩; rw [hW_]; clear hW_ w_; refine ⟨_, rfl, ?_⟩; (try simp only [Act.put, List.setIfInBounds_toArray, List.set_cons_zero, List.set_cons_succ]))
        | ((with_reducible refine at_cnv 45 ?_); refine L_give (by rfl) (g_cv_23_3 _ _ _ rfl hnw.out ?_); (try simp only [Act.put, List.setIfInBounds_toArray, List.set_cons_zero, List.set_cons_succ]))
        | ((with_reducible refine at_binD 47 ?_); refine L_give (by rfl) (g_ilss 3 _ _ .i64 _ _ true rfl rfl (decide_eq_true hn4) ?_); (try simp only [Act.put, List.setIfInBounds_toArray, List.set_cons_zero, List.set_cons_succ]))
        | ((with_reducible refine at_bld 56 ?_); refine L_give (by rfl) (g_bldH0 ?_); (try simp only [Act.put, List.setIfInBounds_toArray, List.set_cons_zero, List.set_cons_succ]))
        | ((with_reducible refine at_storeX 2 26 ?_); refine L_store_all 26 _ _ (w.heap.size) (hc (hz)) _ 26 rfl rfl b_r (szH hz) rfl (one_hc _) ?_; clear b_r; intro wr1 t_ b_r; replace b_h := t_.blk b_h (Nat.ne_of_gt o_r_h); replace hB := t_.below hB l_hB_r; clear t_))
      rw [← HE.out.2, hGG.out, HE.out.1]
      exact bodyPost_ret (results_blk_tmp2 rfl _ (hc hz) (.slice none 0 0) (.int .i64 2) _ rfl rfl rfl b_r Try.underlying26 rfl (szH hz)) rfl ⟨_, rfl, Fis.nil _, hB⟩
    obtain ⟨kn, hkn⟩ : ∃ kn : Nat, k + n = kn := ⟨_, rfl⟩
    have hknw : Hid (IntKind.i64.wrap ((k : Int) + (n : Int)) = (kn : Int)) := by show _ = _; rw [wrap_i64 _ (by (have hsl := Lib.size_eq s; omega)) (by (have hsl := Lib.size_eq s; omega))]; (have hsl := Lib.size_eq s; omega)
    by_cases hn5 : (s.size : Int) < (kn : Int)
    · skip
      have HE : Hid (l = [] ∧ (2 : Int) = E) := by
        exact hno.out (fun hc => by have := hc.2.1.2; rw [hnd.out, List.length_drop] at this; (have hsl := Lib.size_eq s; omega))
      have hGG : Hid (G2 = hz) := hE1.out (by rw [← HE.out.2]; decide)
      go_wp2_with (first
        | ((with_reducible refine at_binD 30 ?_); refine L_give (by rfl) (g_ilss 3 _ _ .i64 _ _ true rfl rfl (decide_eq_true hkI) ?_); (try simp only [Act.put, List.setIfInBounds_toArray, List.set_cons_zero, List.set_cons_succ]))
        | ((with_reducible refine at_binD 33 ?_); refine L_give (by rfl) (g_ieq 3 _ _ .i64 _ _ false rfl rfl (decide_eq_false h16) ?_); (try simp only [Act.put, List.setIfInBounds_toArray, List.set_cons_zero, List.set_cons_succ]))
        | ((with_reducible refine at_binD 36 ?_); refine L_give (by rfl) (g_iadd 3 _ _ .i64 _ _ k4 rfl rfl hk4.out ?_); (try simp only [Act.put, List.setIfInBounds_toArray, List.set_cons_zero, List.set_cons_succ]))
        | ((with_reducible refine at_binD 39 ?_); refine L_give (by rfl) (g_igtr 3 _ _ .i64 _ _ false rfl rfl (decide_eq_false h4) ?_); (try simp only [Act.put, List.setIfInBounds_toArray, List.set_cons_zero, List.set_cons_succ]))
        | ((with_reducible refine at_binD 43 ?_); refine L_give (by rfl) (g_iadd 3 _ _ .i64 _ _ ((k + 2 : Nat) : Int) rfl rfl h2I.out ?_); (try simp only [Act.put, List.setIfInBounds_toArray, List.set_cons_zero, List.set_cons_succ]))
        | ((with_reducible refine at_callD 44 ?_); refine L_give (by rfl) (g_call 33 _ _ [.string s, .int .i64 ((k + 2 : Nat) : Int), .int .i64 ((2 : Nat) : Int)] (kf33 _ _) rfl ((rnum_any s (k + 2) 2 (n : Int) _ (by (have hsl := Lib.size_eq s; omega)) hs2 (by decide) hn).mono ?_)); rintro e w_ ⟨rfl, hW_⟩; rw [hW_]; clear hW_ w_; refine ⟨_, rfl, ?_⟩; (try simp only [Act.put, List.setIfInBounds_toArray, List.set_cons_zero, List.set_cons_succ]))
        | ((with_reducible refine at_cnv 45 ?_); refine L_give (by rfl) (g_cv_23_3 _ _ _ rfl hnw.out ?_); (try simp only [Act.put, List.setIfInBounds_toArray, List.set_cons_zero, List.set_cons_succ]))
        | ((with_reducible refine at_binD 47 ?_); refine L_give (by rfl) (g_ilss 3 _ _ .i64 _ _ false rfl rfl (decide_eq_false hn4) ?_); (try simp only [Act.put, List.setIfInBounds_toArray, List.set_cons_zero, List.set_cons_succ]))
        | ((with_reducible refine at_binD 51 ?_); refine L_give (by rfl) (g_iadd 3 _ _ .i64 _ _ (kn : Int) rfl rfl hknw.out ?_); (try simp only [Act.put, List.setIfInBounds_toArray, List.set_cons_zero, List.set_cons_succ]))
        | ((with_reducible refine at_binD 54 ?_); refine L_give (by rfl) (g_igtr 3 _ _ .i64 _ _ true rfl rfl (decide_eq_true hn5) ?_); (try simp only [Act.put, List.setIfInBounds_toArray, List.set_cons_zero, List.set_cons_succ]))
        | ((with_reducible refine at_bld 56 ?_); refine L_give (by rfl) (g_bldH0 ?_); (try simp only [Act.put, List.setIfInBounds_toArray, List.set_cons_zero, List.set_cons_succ]))
        | ((with_reducible refine at_storeX 2 26 ?_); refine L_store_all 26 _ _ (w.heap.size) (hc (hz)) _ 26 rfl rfl b_r (szH hz) rfl (one_hc _) ?_; clear b_r; intro wr1 t_ b_r; replace b_h := t_.blk b_h (Nat.ne_of_gt o_r_h); replace hB := t_.below hB l_hB_r; clear t_))
      rw [← HE.out.2, hGG.out, HE.out.1]
      exact bodyPost_ret (results_blk_tmp2 rfl _ (hc hz) (.slice none 0 0) (.int .i64 2) _ rfl rfl rfl b_r Try.underlying26 rfl (szH hz)) rfl ⟨_, rfl, Fis.nil _, hB⟩
    obtain ⟨kk, hkk⟩ : ∃ kk : Nat, nm s.data.toList k 2 = kk := ⟨_, rfl⟩
    have hkl : kk < 65536 := by rw [← hkk]; exact nm_lt _ _ 2
    replace hkk : Hid (((nm s.data.toList k 2 : Nat) : Int) = (kk : Int)) := by show _ = _; rw [hkk]
    have hkw : Hid (IntKind.i64.wrap (kk : Int) = (kk : Int)) := wrap_i64 _ (by (have hsl := Lib.size_eq s; omega)) (by (have hsl := Lib.size_eq s; omega))
    have hk4w : Hid (IntKind.i64.wrap ((k : Int) + 4) = ((k + 4 : Nat) : Int)) := by show _ = _; rw [wrap_i64 _ (by (have hsl := Lib.size_eq s; omega)) (by (have hsl := Lib.size_eq s; omega))]; (have hsl := Lib.size_eq s; omega)
    obtain ⟨d, hd⟩ : ∃ d, Hid (s.extract (k + 4) kn = d) := ⟨_, rfl⟩
    have hseem : Hid (seem (s.data.toList.drop k) = ((kk : Int), d)) := by
      show _ = _
      unfold seem
      have e1 := hkk.out
      rw [hnd.out, nm_drop, Nat.add_zero, e1]
      congr 1
      apply ByteArray.ext; apply Array.toList_inj.1
      rw [← hd.out, ext_list, List.drop_drop, show kn - (k + 4) = n - 4 by (have hsl := Lib.size_eq s; omega)]
    obtain ⟨f, hf⟩ : ∃ f : Int × ByteArray, ((kk : Int), d) = f := ⟨_, rfl⟩
    have hf1 : Hid ((kk : Int) = f.1) := by show _ = _; rw [← hf]
    have hf2 : Hid (d = f.2) := by show _ = _; rw [← hf]
    rw [hf] at hseem
    clear hf
    obtain ⟨acc2, hacc⟩ : ∃ a, Hid (acc ++ [f] = a) := ⟨_, rfl⟩
    have hal2 : Hid (acc2.length = acc.length + 1) := by show _ = _; rw [← hacc.out, List.length_append]; rfl
    go_wp2_with (first
      | ((with_reducible refine at_binD 30 ?_); refine L_give (by rfl) (g_ilss 3 _ _ .i64 _ _ true rfl rfl (decide_eq_true hkI) ?_); (try simp only [Act.put, List.setIfInBounds_toArray, List.set_cons_zero, List.set_cons_succ]))
      | ((with_reducible refine at_binD 33 ?_); refine L_give (by rfl) (g_ieq 3 _ _ .i64 _ _ false rfl rfl (decide_eq_false h16) ?_); (try simp only [Act.put, List.setIfInBounds_toArray, List.set_cons_zero, List.set_cons_succ]))
      | ((with_reducible refine at_binD 36 ?_); refine L_give (by rfl) (g_iadd 3 _ _ .i64 _ _ k4 rfl rfl hk4.out ?_); (try simp only [Act.put, List.setIfInBounds_toArray, List.set_cons_zero, List.set_cons_succ]))
      | ((with_reducible refine at_binD 39 ?_); refine L_give (by rfl) (g_igtr 3 _ _ .i64 _ _ false rfl rfl (decide_eq_false h4) ?_); (try simp only [Act.put, List.setIfInBounds_toArray, List.set_cons_zero, List.set_cons_succ]))
      | ((with_reducible refine at_binD 43 ?_); refine L_give (by rfl) (g_iadd 3 _ _ .i64 _ _ ((k + 2 : Nat) : Int) rfl rfl h2I.out ?_); (try simp only [Act.put, List.setIfInBounds_toArray, List.set_cons_zero, List.set_cons_succ]))
      | ((with_reducible refine at_callD 44 ?_); refine L_give (by rfl) (g_call 33 _ _ [.string s, .int .i64 ((k + 2 : Nat) : Int), .int .i64 ((2 : Nat) : Int)] (kf33 _ _) rfl ((rnum_any s (k + 2) 2 (n : Int) _ (by (have hsl := Lib.size_eq s; omega)) hs2 (by decide) hn).mono ?_)); rintro e w_ ⟨rfl, hW_⟩; rw [hW_]; clear hW_ w_; refine ⟨_, rfl, ?_⟩; (try simp only [Act.put, List.setIfInBounds_toArray, List.set_cons_zero, List.set_cons_succ]))
      | ((with_reducible refine at_cnv 45 ?_); refine L_give (by rfl) (g_cv_23_3 _ _ _ rfl hnw.out ?_); (try simp only [Act.put, List.setIfInBounds_toArray, List.set_cons_zero, List.set_cons_succ]))
      | ((with_reducible refine at_binD 47 ?_); refine L_give (by rfl) (g_ilss 3 _ _ .i64 _ _ false rfl rfl (decide_eq_false hn4) ?_); (try simp only [Act.put, List.setIfInBounds_toArray, List.set_cons_zero, List.set_cons_succ]))
      | ((with_reducible refine at_binD 51 ?_); refine L_give (by rfl) (g_iadd 3 _ _ .i64 _ _ (kn : Int) rfl rfl hknw.out ?_); (try simp only [Act.put, List.setIfInBounds_toArray, List.set_cons_zero, List.set_cons_succ]))
      | ((with_reducible refine at_binD 54 ?_); refine L_give (by rfl) (g_igtr 3 _ _ .i64 _ _ false rfl rfl (decide_eq_false hn5) ?_); (try simp only [Act.put, List.setIfInBounds_toArray, List.set_cons_zero, List.set_cons_succ]))
      | (refine stop_region 16 ?_; intro X2 hX2))
    refine hX2.out ?_
    clear hX2 X2
    refine wp_late_chain 15 13 14 (by kernel_rfl) (by kernel_rfl) (by rfl) (by decide) (by decide) (by decide) (fun a_ b_ => [.slice ao acc.length cap, .string s, .int .i64 (k : Int), .int .u64 (kk : Int), .int .i64 (kk : Int), .string s, .int .i64 (k : Int), .int .i64 ((k + 4 : Nat) : Int), .int .i64 (k : Int), .int .i64 (n : Int), .int .i64 (kn : Int), .string d, .agg (fc f).toArray, a_, b_, b_]) (fun _ _ => by rfl) (fun _ _ => by rfl) (fun _ _ => by rfl) (fun _ _ => by rfl) ?_ ?_ (fun wx => OF B0 wx (.slice ao acc.length cap) acc ∧ Blk wx w.heap.size (hc hz) 26 ∧ Blk wx H0 (hc G) 26 ∧ Below w.heap.size w wx ∧ B0 ≤ wx.heap.size) (fun a_ wx => (∃ p, a_ = .slice (some ⟨p, 0, none⟩) 1 1 ∧ Blk wx p (fc f) 48) ∧ OF B0 wx (.slice ao acc.length cap) acc ∧ Blk wx w.heap.size (hc hz) 26 ∧ Blk wx H0 (hc G) 26 ∧ Below w.heap.size w wx ∧ B0 ≤ wx.heap.size) (fun b_ wx => OF B0 wx b_ acc2 ∧ Blk wx w.heap.size (hc hz) 26 ∧ Blk wx H0 (hc G) 26 ∧ Below w.heap.size w wx ∧ B0 ≤ wx.heap.size) ⟨hO.below (Below.refl _ _).drew, b_r.drew, b_h.drew, hB.drew, hBs⟩ ?_ ?_ ?_ ?_ ?_
    · intro a b a2 b2 i h1 h2 h3; rcases i with _ | _ | _ | _ | _ | _ | _ | _ | _ | _ | _ | _ | _ | _ | _ | _ | i <;> first | rfl | exact absurd rfl h1 | exact absurd rfl h2 | exact absurd rfl h3
    · intro o ho; obtain rfl := Option.some.inj ho; exact ⟨⟨13, .data⟩, by simp, rfl, rfl⟩
    · simp only [List.take_succ_cons, List.take_zero, fullL, Act.put, List.setIfInBounds_toArray, List.set_cons_succ, List.set_cons_zero]
      intro i o ho h1 h2 h3 a_ b_ wx
      rcases i with _ | _ | _ | _ | _ | _ | _ | _ | _ | _ | _ | _ | _ | _ | _ | _ | i
      · obtain rfl := Option.some.inj ho; exact g_move _ _ rfl ⟨rfl, rfl⟩
      · obtain rfl := Option.some.inj ho; exact g_move _ _ rfl ⟨rfl, rfl⟩
      · obtain rfl := Option.some.inj ho; exact g_move _ _ rfl ⟨rfl, rfl⟩
      · obtain rfl := Option.some.inj ho; exact g_call 33 _ _ [.string s, .int .i64 (k : Int), .int .i64 ((2 : Nat) : Int)] (kf33 _ _) rfl ((rnum_any s k 2 (kk : Int) _ (by (have hsl := Lib.size_eq s; omega)) hs2 (by decide) hkk).mono fun _ _ ⟨h1, h2⟩ => ⟨_, h1, rfl, h2⟩)
      · obtain rfl := Option.some.inj ho; exact g_cv_23_3 _ _ _ rfl hkw.out ⟨rfl, rfl⟩
      · obtain rfl := Option.some.inj ho; exact g_move _ _ rfl ⟨rfl, rfl⟩
      · obtain rfl := Option.some.inj ho; exact g_move _ _ rfl ⟨rfl, rfl⟩
      · obtain rfl := Option.some.inj ho; exact g_iadd 3 _ _ .i64 _ _ _ rfl rfl hk4w.out ⟨rfl, rfl⟩
      · obtain rfl := Option.some.inj ho; exact g_move _ _ rfl ⟨rfl, rfl⟩
      · obtain rfl := Option.some.inj ho; exact g_move _ _ rfl ⟨rfl, rfl⟩
      · obtain rfl := Option.some.inj ho; exact g_iadd 3 _ _ .i64 _ _ _ rfl rfl hknw.out ⟨rfl, rfl⟩
      · obtain rfl := Option.some.inj ho; exact g_slh _ _ _ s d (k + 4) kn rfl rfl rfl (by (have hsl := Lib.size_eq s; omega)) (by (have hsl := Lib.size_eq s; omega)) hd.out ⟨rfl, rfl⟩
      · obtain rfl := Option.some.inj ho; exact g_bldF _ _ f (by rw [← hf1.out]; rfl) (by rw [← hf2.out]; rfl) ⟨rfl, rfl⟩
      · exact absurd rfl h1
      · exact absurd rfl h2
      · exact absurd rfl h3
      · simp at ho
    · intro o ho a_ b_ wx ⟨hO, b_r, b_h, hB, hBs⟩; obtain rfl := Option.some.inj ho; simp only [List.take_succ_cons, List.take_zero, fullL, Act.put, List.setIfInBounds_toArray, List.set_cons_succ, List.set_cons_zero]
      exact g_bslF _ f rfl (fun w' t_ b_n => ⟨⟨_, rfl, b_n⟩, hO.below t_.toBelow, t_.blk b_r (Nat.ne_of_lt b_r.lt), t_.blk b_h (Nat.ne_of_lt b_h.lt), t_.below hB hB.size, Nat.le_trans hBs t_.size⟩)
    · intro o ho a_ b_ wx ⟨⟨p, hp, b_n⟩, hO, b_r, b_h, hB, hBs⟩; subst hp; obtain rfl := Option.some.inj ho; simp only [List.take_succ_cons, List.take_zero, fullL, Act.put, List.setIfInBounds_toArray, List.set_cons_succ, List.set_cons_zero]
      exact g_appF _ _ B0 _ acc f p rfl rfl hO b_n (by (have hsl := Lib.size_eq s; omega)) hBs (fun v' w' hO2 hg _ => ⟨by rw [← hacc.out]; exact hO2, blk_grown b_r hg hO B_r, blk_grown b_h hg hO B_h, hB.grown hg hB.size (fun q hq => Nat.le_trans (Nat.le_of_lt B_r) (hO.lt q hq).1), Nat.le_trans hBs hg.size⟩)
    · intro o ho a_ b_ wx; obtain rfl := Option.some.inj ho; simp only [List.take_succ_cons, List.take_zero, fullL, Act.put, List.setIfInBounds_toArray, List.set_cons_succ, List.set_cons_zero]
      exact g_assign _ _ rfl ⟨rfl, rfl⟩
    · simp only [fullL, Act.put, List.setIfInBounds_toArray, List.set_cons_succ, List.set_cons_zero]
      clear hO b_r b_h hB hBs
      intro a_ b_ w1 ⟨hO, b_r, b_h, hB, hBs⟩
      obtain ⟨ao2, cap2, rfl⟩ := hO.len
      have hA : Below w1.heap.size w1 w1 := Below.refl _ _
      by_cases hfm : FMays f
      · obtain ⟨W, hWd⟩ : ∃ W : ByteArray, (⟨(wb G acc2).toArray⟩ : ByteArray) = W := ⟨_, rfl⟩
        have hWl : Hid (W.data.toList = s.data.toList.take k ++ fb f) := by show _ = _; rw [← hWd, ← hacc.out, wb_snoc, hW.out]
        have hfa : Hid (∀ g ∈ acc2, FMays g) := by intro g hg; rw [← hacc.out] at hg; rcases List.mem_append.1 hg with hg | hg; exact hF.out g hg; rw [List.mem_singleton.1 hg]; exact hfm
        have hwr : Hid (Go.Proofs.Yteieacamokoejaa.wr G acc2 = (W, 0)) := by show _ = _; unfold Go.Proofs.Yteieacamokoejaa.wr; rw [if_pos hmG.out, if_pos ((all_fmay acc2).2 hfa.out), if_neg (by have := hal2.out; (have hsl := Lib.size_eq s; omega)), hWd]
        clear hWd
        have hWs : W.size = k + (fb f).length := by rw [Lib.size_eq, hWl.out, List.length_append, List.length_take]; (have hsl := Lib.size_eq s; omega)
        have hfbl := fb_le f
        have hfbg := fb_ge f
        have hf2s := hfm.2
        by_cases hgt : (s.size : Int) < (W.size : Int)
        · skip
          have HE : Hid (l = [] ∧ (2 : Int) = E) := by
            exact hno.out (fun hc => by have := hc.2.2.2.length_le; rw [hseem.out, List.length_drop] at this; (have hsl := Lib.size_eq s; omega))
          have hGG : Hid (G2 = hz) := hE1.out (by rw [← HE.out.2]; decide)
          go_wp2_with (first
            | ((with_reducible refine at_loadD 73 26 ?_); refine L_give (by rfl) (g_load_all 26 _ (H0) (hc (G)) 26 _ rfl (b_h) Try.underlying26 rfl (szH hz) ?_); (try simp only [Act.put, List.setIfInBounds_toArray, List.set_cons_zero, List.set_cons_succ]))
            | ((with_reducible refine at_callD 75 ?_); refine L_give (by rfl) (g_call 22 _ _ [.agg (hc (G)).toArray, .slice ao2 acc2.length cap2] (kf22 _ _) rfl ((rhwrite_any G acc2 ao2 cap2 w1 hi (by have := hal2.out; (have hsl := Lib.size_eq s; omega)) hO.fs W 0 hwr).mono ?_)); rintro e wz1 ⟨rfl, t_⟩; refine ⟨_, rfl, ?_⟩; replace b_r := b_r.below t_ b_r.lt; replace b_h := b_h.below t_ b_h.lt; replace hB := hB.trans (t_.mono hB.size); replace hA := hA.trans (t_.mono hA.size); clear t_; (try simp only [Act.put, List.setIfInBounds_toArray, List.set_cons_zero, List.set_cons_succ]))
            | ((with_reducible refine at_binD 79 ?_); refine L_give (by rfl) (g_ine 28 _ _ .i64 _ _ false rfl rfl (by decide) ?_); (try simp only [Act.put, List.setIfInBounds_toArray, List.set_cons_zero, List.set_cons_succ]))
            | ((with_reducible refine at_callD 82 ?_); refine L_give (by rfl) (g_slen _ _ _ rfl rfl ?_); (try simp only [Act.put, List.setIfInBounds_toArray, List.set_cons_zero, List.set_cons_succ]))
            | ((with_reducible refine at_callD 84 ?_); refine L_give (by rfl) (g_slen _ _ _ rfl rfl ?_); (try simp only [Act.put, List.setIfInBounds_toArray, List.set_cons_zero, List.set_cons_succ]))
            | ((with_reducible refine at_binD 85 ?_); refine L_give (by rfl) (g_igtr 3 _ _ .i64 _ _ true rfl rfl (decide_eq_true hgt) ?_); (try simp only [Act.put, List.setIfInBounds_toArray, List.set_cons_zero, List.set_cons_succ]))
            | ((with_reducible refine at_bld 95 ?_); refine L_give (by rfl) (g_bldH0 ?_); (try simp only [Act.put, List.setIfInBounds_toArray, List.set_cons_zero, List.set_cons_succ]))
            | ((with_reducible refine at_storeX 2 26 ?_); refine L_store_all 26 _ _ (w.heap.size) (hc (hz)) _ 26 rfl rfl b_r (szH hz) rfl (one_hc _) ?_; clear b_r; intro wz2 t_ b_r; replace b_h := t_.blk b_h (Nat.ne_of_gt o_r_h); replace hB := t_.below hB l_hB_r; clear t_))
          rw [← HE.out.2, hGG.out, HE.out.1]
          exact bodyPost_ret (results_blk_tmp2 rfl _ (hc hz) (.slice none 0 0) (.int .i64 2) _ rfl rfl rfl b_r Try.underlying26 rfl (szH hz)) rfl ⟨_, rfl, Fis.nil _, hB⟩
        obtain ⟨U, hU⟩ : ∃ U, Hid (s.extract 0 W.size = U) := ⟨_, rfl⟩
        by_cases heq : U = W
        · have hpre : W.data.toList <+: s.data.toList := (prefix_ext s W).2 ⟨by (have hsl := Lib.size_eq s; omega), by rw [hU.out]; exact heq⟩
          have hcut : Cuts (s.data.toList.drop k) := by
            refine ⟨by rw [List.length_drop]; (have hsl := Lib.size_eq s; omega), ⟨by rw [hnd.out]; (have hsl := Lib.size_eq s; omega), by rw [hnd.out, List.length_drop]; (have hsl := Lib.size_eq s; omega)⟩, by rw [hseem.out]; exact hfm, ?_⟩
            rw [hseem.out]
            exact (prefix_at _ _ k _ hWl.out).1 hpre
          have htk : Hid (s.data.toList.take W.size = wb G acc2) := by
            show _ = _
            rw [← hacc.out, wb_snoc, ← hW.out, ← hWl.out]
            rw [Lib.size_eq W]
            exact (List.prefix_iff_eq_take.1 hpre).symm
          have hfl2 : Hid (fl 16 (s.data.toList.drop 48) = glue acc2 (fl (16 - acc2.length) (s.data.toList.drop W.size))) := by
            show _ = _
            rw [hfl.out, show 16 - acc.length = (15 - acc.length) + 1 by (have hsl := Lib.size_eq s; omega), fl_step _ _ hcut, glue_glue, hseem.out, hacc.out, List.drop_drop, hWs, hal2.out, show 16 - (acc.length + 1) = 15 - acc.length by (have hsl := Lib.size_eq s; omega)]
          clear hcut hpre
          replace hWs : Hid (W.size = k + (fb f).length) := hWs
          go_wp2_with (first
            | ((with_reducible refine at_loadD 73 26 ?_); refine L_give (by rfl) (g_load_all 26 _ (H0) (hc (G)) 26 _ rfl (b_h) Try.underlying26 rfl (szH hz) ?_); (try simp only [Act.put, List.setIfInBounds_toArray, List.set_cons_zero, List.set_cons_succ]))
            | ((with_reducible refine at_callD 75 ?_); refine L_give (by rfl) (g_call 22 _ _ [.agg (hc (G)).toArray, .slice ao2 acc2.length cap2] (kf22 _ _) rfl ((rhwrite_any G acc2 ao2 cap2 w1 hi (by have := hal2.out; (have hsl := Lib.size_eq s; omega)) hO.fs W 0 hwr).mono ?_)); rintro e wz1 ⟨rfl, t_⟩; refine ⟨_, rfl, ?_⟩; replace b_r := b_r.below t_ b_r.lt; replace b_h := b_h.below t_ b_h.lt; replace hB := hB.trans (t_.mono hB.size); replace hA := hA.trans (t_.mono hA.size); clear t_; (try simp only [Act.put, List.setIfInBounds_toArray, List.set_cons_zero, List.set_cons_succ]))
            | ((with_reducible refine at_binD 79 ?_); refine L_give (by rfl) (g_ine 28 _ _ .i64 _ _ false rfl rfl (by decide) ?_); (try simp only [Act.put, List.setIfInBounds_toArray, List.set_cons_zero, List.set_cons_succ]))
            | ((with_reducible refine at_callD 82 ?_); refine L_give (by rfl) (g_slen _ _ _ rfl rfl ?_); (try simp only [Act.put, List.setIfInBounds_toArray, List.set_cons_zero, List.set_cons_succ]))
            | ((with_reducible refine at_callD 84 ?_); refine L_give (by rfl) (g_slen _ _ _ rfl rfl ?_); (try simp only [Act.put, List.setIfInBounds_toArray, List.set_cons_zero, List.set_cons_succ]))
            | ((with_reducible refine at_binD 85 ?_); refine L_give (by rfl) (g_igtr 3 _ _ .i64 _ _ false rfl rfl (decide_eq_false hgt) ?_); (try simp only [Act.put, List.setIfInBounds_toArray, List.set_cons_zero, List.set_cons_succ]))
            | ((with_reducible refine at_callD 90 ?_); refine L_give (by rfl) (g_slen _ _ _ rfl rfl ?_); (try simp only [Act.put, List.setIfInBounds_toArray, List.set_cons_zero, List.set_cons_succ]))
            | ((with_reducible refine at_sliceD 91 ?_); refine L_give (by rfl) (g_sl_h _ _ s U W.size rfl rfl (by (have hsl := Lib.size_eq s; omega)) hU.out ?_); (try simp only [Act.put, List.setIfInBounds_toArray, List.set_cons_zero, List.set_cons_succ]))
            | ((with_reducible refine at_binD 93 ?_); refine L_give (by rfl) (g_sneq 9 _ _ (U) (W) true rfl rfl (decide_eq_true heq) ?_); (try simp only [Act.put, List.setIfInBounds_toArray, List.set_cons_zero, List.set_cons_succ])))
          go_roundw
          case rel => exact ⟨acc2, W.size, rfl, by (have hsl := Lib.size_eq s; omega), by have := hal2.out; (have hsl := Lib.size_eq s; omega), htk.out, hfa.out, hfl2.out, hO.below hA, b_r, b_h, hB, Nat.le_trans hBs hA.size⟩
          case measure => simp [intOf]; have := hWs.out; (have hsl := Lib.size_eq s; omega)
        · skip
          have HE : Hid (l = [] ∧ (2 : Int) = E) := by
            exact hno.out (fun hc => by
              have h1 := hc.2.2.2
              rw [hseem.out] at h1
              have h2 := (prefix_ext s W).1 ((prefix_at _ _ k _ hWl.out).2 h1)
              exact heq (by rw [← hU.out]; exact h2.2))
          have hGG : Hid (G2 = hz) := hE1.out (by rw [← HE.out.2]; decide)
          go_wp2_with (first
            | ((with_reducible refine at_loadD 73 26 ?_); refine L_give (by rfl) (g_load_all 26 _ (H0) (hc (G)) 26 _ rfl (b_h) Try.underlying26 rfl (szH hz) ?_); (try simp only [Act.put, List.setIfInBounds_toArray, List.set_cons_zero, List.set_cons_succ]))
            | ((with_reducible refine at_callD 75 ?_); refine L_give (by rfl) (g_call 22 _ _ [.agg (hc (G)).toArray, .slice ao2 acc2.length cap2] (kf22 _ _) rfl ((rhwrite_any G acc2 ao2 cap2 w1 hi (by have := hal2.out; (have hsl := Lib.size_eq s; omega)) hO.fs W 0 hwr).mono ?_)); rintro e wz1 ⟨rfl, t_⟩; refine ⟨_, rfl, ?_⟩; replace b_r := b_r.below t_ b_r.lt; replace b_h := b_h.below t_ b_h.lt; replace hB := hB.trans (t_.mono hB.size); replace hA := hA.trans (t_.mono hA.size); clear t_; (try simp only [Act.put, List.setIfInBounds_toArray, List.set_cons_zero, List.set_cons_succ]))
            | ((with_reducible refine at_binD 79 ?_); refine L_give (by rfl) (g_ine 28 _ _ .i64 _ _ false rfl rfl (by decide) ?_); (try simp only [Act.put, List.setIfInBounds_toArray, List.set_cons_zero, List.set_cons_succ]))
            | ((with_reducible refine at_callD 82 ?_); refine L_give (by rfl) (g_slen _ _ _ rfl rfl ?_); (try simp only [Act.put, List.setIfInBounds_toArray, List.set_cons_zero, List.set_cons_succ]))
            | ((with_reducible refine at_callD 84 ?_); refine L_give (by rfl) (g_slen _ _ _ rfl rfl ?_); (try simp only [Act.put, List.setIfInBounds_toArray, List.set_cons_zero, List.set_cons_succ]))
            | ((with_reducible refine at_binD 85 ?_); refine L_give (by rfl) (g_igtr 3 _ _ .i64 _ _ false rfl rfl (decide_eq_false hgt) ?_); (try simp only [Act.put, List.setIfInBounds_toArray, List.set_cons_zero, List.set_cons_succ]))
            | ((with_reducible refine at_callD 90 ?_); refine L_give (by rfl) (g_slen _ _ _ rfl rfl ?_); (try simp only [Act.put, List.setIfInBounds_toArray, List.set_cons_zero, List.set_cons_succ]))
            | ((with_reducible refine at_sliceD 91 ?_); refine L_give (by rfl) (g_sl_h _ _ s U W.size rfl rfl (by (have hsl := Lib.size_eq s; omega)) hU.out ?_); (try simp only [Act.put, List.setIfInBounds_toArray, List.set_cons_zero, List.set_cons_succ]))
            | ((with_reducible refine at_binD 93 ?_); refine L_give (by rfl) (g_sneq 9 _ _ (U) (W) false rfl rfl (decide_eq_false heq) ?_); (try simp only [Act.put, List.setIfInBounds_toArray, List.set_cons_zero, List.set_cons_succ]))
            | ((with_reducible refine at_bld 95 ?_); refine L_give (by rfl) (g_bldH0 ?_); (try simp only [Act.put, List.setIfInBounds_toArray, List.set_cons_zero, List.set_cons_succ]))
            | ((with_reducible refine at_storeX 2 26 ?_); refine L_store_all 26 _ _ (w.heap.size) (hc (hz)) _ 26 rfl rfl b_r (szH hz) rfl (one_hc _) ?_; clear b_r; intro wz2 t_ b_r; replace b_h := t_.blk b_h (Nat.ne_of_gt o_r_h); replace hB := t_.below hB l_hB_r; clear t_))
          rw [← HE.out.2, hGG.out, HE.out.1]
          exact bodyPost_ret (results_blk_tmp2 rfl _ (hc hz) (.slice none 0 0) (.int .i64 2) _ rfl rfl rfl b_r Try.underlying26 rfl (szH hz)) rfl ⟨_, rfl, Fis.nil _, hB⟩
      · have hwr : Hid (Go.Proofs.Yteieacamokoejaa.wr G acc2 = (ByteArray.empty, 2)) := by
          show _ = _
          unfold Go.Proofs.Yteieacamokoejaa.wr
          rw [if_pos hmG.out, if_neg]
          rw [← hacc.out]
          intro h
          exact hfm ((all_fmay _).1 h f (by simp))
        have HE : Hid (l = [] ∧ (2 : Int) = E) := by
          exact hno.out (fun hc => hfm (by have := hc.2.2.1; rw [hseem.out] at this; exact this))
        have hGG : Hid (G2 = hz) := hE1.out (by rw [← HE.out.2]; decide)
        go_wp2_with (first
          | ((with_reducible refine at_loadD 73 26 ?_); refine L_give (by rfl) (g_load_all 26 _ (H0) (hc (G)) 26 _ rfl (b_h) Try.underlying26 rfl (szH hz) ?_); (try simp only [Act.put, List.setIfInBounds_toArray, List.set_cons_zero, List.set_cons_succ]))
          | ((with_reducible refine at_callD 75 ?_); refine L_give (by rfl) (g_call 22 _ _ [.agg (hc (G)).toArray, .slice ao2 acc2.length cap2] (kf22 _ _) rfl ((rhwrite_any G acc2 ao2 cap2 w1 hi (by have := hal2.out; (have hsl := Lib.size_eq s; omega)) hO.fs ByteArray.empty 2 hwr).mono ?_)); rintro e wz1 ⟨rfl, t_⟩; refine ⟨_, rfl, ?_⟩; replace b_r := b_r.below t_ b_r.lt; replace b_h := b_h.below t_ b_h.lt; replace hB := hB.trans (t_.mono hB.size); replace hA := hA.trans (t_.mono hA.size); clear t_; (try simp only [Act.put, List.setIfInBounds_toArray, List.set_cons_zero, List.set_cons_succ]))
          | ((with_reducible refine at_binD 79 ?_); refine L_give (by rfl) (g_ine 28 _ _ .i64 _ _ true rfl rfl (by decide) ?_); (try simp only [Act.put, List.setIfInBounds_toArray, List.set_cons_zero, List.set_cons_succ]))
          | ((with_reducible refine at_bld 95 ?_); refine L_give (by rfl) (g_bldH0 ?_); (try simp only [Act.put, List.setIfInBounds_toArray, List.set_cons_zero, List.set_cons_succ]))
          | ((with_reducible refine at_storeX 2 26 ?_); refine L_store_all 26 _ _ (w.heap.size) (hc (hz)) _ 26 rfl rfl b_r (szH hz) rfl (one_hc _) ?_; clear b_r; intro wz2 t_ b_r; replace b_h := t_.blk b_h (Nat.ne_of_gt o_r_h); replace hB := t_.below hB l_hB_r; clear t_))
        rw [← HE.out.2, hGG.out, HE.out.1]
        exact bodyPost_ret (results_blk_tmp2 rfl _ (hc hz) (.slice none 0 0) (.int .i64 2) _ rfl rfl rfl b_r Try.underlying26 rfl (szH hz)) rfl ⟨_, rfl, Fis.nil _, hB⟩
theorem rhread_any (s : ByteArray) (G : Hd) (l : List (Int × ByteArray)) (E : Int) (w : World) (hs2 : s.size ≤ 140737488355328) (h : Hid (rdp s = (G, l, E))) : Calls Try.prog 20 #[.string s] w fun e w' => ∃ v, e = .returned (.tuple #[.agg (hc G).toArray, v, .int .i64 E]) ∧ Fis w' v l ∧ Below w.heap.size w w' := by
  have h := h.out
  have hl := Lib.size_eq s
  unfold rdp at h
  split at h
  · rename_i c
    simp only [Prod.mk.injEq] at h
    obtain ⟨rfl, rfl, rfl⟩ := h
    exact rread_0 s w (by omega)
  · rename_i c
    have ex : (s.extract 0 48).data.toList = s.data.toList.take 48 := by rw [ext_list]; rfl
    have es : (s.extract 0 48).size = 48 := by rw [ByteArray.size_extract]; omega
    split at h
    · rename_i hv
      have ht : Hid (tk (s.extract 0 48) = (dec (s.data.toList.take 48), 0)) := by show _ = _; unfold tk; rw [if_pos es, ex, if_pos hv]
      have hm : Hid (may (dec (s.data.toList.take 48)) = true) := by show _ = _; rw [may_dec]; exact decide_eq_true hv
      have hb : Hid (s.data.toList.take 48 = hb (dec (s.data.toList.take 48))) := (hb_dec _ (by rw [List.length_take]; omega)).symm
      split at h
      · rename_i he
        simp only [Prod.mk.injEq] at h
        obtain ⟨rfl, rfl, rfl⟩ := h
        exact rread_2 s _ w (by omega) (by omega) rfl hs2 _ _ (dec_in _) hm hb ht _ _ (by show _ = _; rw [← he]) (fun _ => rfl) (fun h => absurd rfl h)
      · rename_i he
        simp only [Prod.mk.injEq] at h
        obtain ⟨rfl, rfl, rfl⟩ := h
        exact rread_2 s _ w (by omega) (by omega) rfl hs2 _ _ (dec_in _) hm hb ht _ _ (by show _ = _; rw [← fl_err _ _ he]) (fun h => absurd h he) (fun _ => rfl)
    · rename_i hv
      simp only [Prod.mk.injEq] at h
      obtain ⟨rfl, rfl, rfl⟩ := h
      exact rread_1 s _ w (by omega) (by omega) rfl (by show _ = _; unfold tk; rw [if_pos es, ex, if_neg hv])
end Go.Proofs.Yteieacamokoejaa
