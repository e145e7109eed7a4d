/- Taken, a thing may come again; so may what was dropped for want of room. -/
import Derived.Test.YtpkjocibgmjhdaaLawC
namespace Go.Proofs.Ytpkjocibgmjhdaa.bufferAgain
set_option maxRecDepth 10000
open Go Go.RowKit
set_option linter.unusedVariables false
set_option linter.unusedSimpArgs false

section
variable {i : Int} {s u : ByteArray}
theorem of_one (i : Int) (s : ByteArray) : ofI i ([] ++ [(i, s)]) = [s] := by rw [ofI_snoc, if_pos rfl]; rfl
theorem not_one (i : Int) (s : ByteArray) : notI i ([] ++ [(i, s)]) = [] := by simp [notI]
theorem full_same (h1 : 1 ≤ i) (hne : s ≠ u) : bpE 1 1 i u ([] ++ [(i, s)]) = 4 := by
  have h2 : hasT i u ([] ++ [(i, s)]) = false := by simp [hasT, hne]
  unfold bpE
  rw [if_neg (by omega), h2, if_neg (by decide), if_pos (.inl (by rw [of_one]; exact Int.le_refl 1))]
theorem full_other (h1 : 1 ≤ i) : bpE 1 1 (i + 1) s ([] ++ [(i, s)]) = 4 := by
  have h2 : hasT (i + 1) s ([] ++ [(i, s)]) = false := by simp [hasT]; omega
  have h3 : ofI (i + 1) ([] ++ [(i, s)]) = [] := by rw [ofI_snoc, if_neg (by omega)]; rfl
  unfold bpE
  rw [if_neg (by omega), h2, if_neg (by decide), if_pos (.inr ⟨by rw [h3]; rfl, by simp [ivs, ins]⟩)]
end
set_option maxHeartbeats 4000000 in
theorem walk_long (s : ByteArray) (a : Int) (w : World) (hs : (200 : Int) < ((s.size : Nat) : Int)) : Calls Try.prog 8 #[.string s, .int .u16 a] w fun e w' => e = .returned (.bool true) ∧ Below w.heap.size w w' := by
  have hM := Ms.refl w
  go_enter Try.func8, Try.ntmps8
  refine wp_seq_k (fun K1 hK1 => ?_)
  refine wl_region ?_
  refine wl_give rfl (g_assign _ (.bool false) rfl ?_)
  (try simp only [Act.put, List.setIfInBounds_toArray, List.set_cons_zero, List.set_cons_succ])
  refine wl_nil ?_
  refine hK1 _ _ ?_
  (try clear hK1 K1)
  refine wp_seq_k (fun K2 hK2 => ?_)
  refine wp_seq_k (fun K3 hK3 => ?_)
  refine wl_region ?_
  refine wl_give rfl (g_call 10 _ _ [] (kf10 _ _) rfl ((awake_any w).mono ?_))
  rintro e w4 ⟨rfl, t_⟩
  refine ⟨_, rfl, ?_⟩
  replace hM := hM.call t_
  clear t_
  (try simp only [Act.put, List.setIfInBounds_toArray, List.set_cons_zero, List.set_cons_succ])
  refine wl_give rfl (g_unot 4 _ true rfl ?_)
  (try simp only [Act.put, List.setIfInBounds_toArray, List.set_cons_zero, List.set_cons_succ])
  refine wl_nil ?_
  refine hK3 _ _ ?_
  (try clear hK3 K3)
  refine wp_cond_false rfl ?_
  refine wp_skip ?_
  refine hK2 _ _ ?_
  (try clear hK2 K2)
  refine wp_seq_k (fun K5 hK5 => ?_)
  refine wp_seq_k (fun K6 hK6 => ?_)
  refine wl_region ?_
  refine wl_give rfl (g_move _ (.string (s)) rfl ?_)
  (try simp only [Act.put, List.setIfInBounds_toArray, List.set_cons_zero, List.set_cons_succ])
  refine wl_give rfl (g_lenT _ (s) ((((s).size : Nat) : Int)) rfl rfl ?_)
  (try simp only [Act.put, List.setIfInBounds_toArray, List.set_cons_zero, List.set_cons_succ])
  refine wl_give rfl (g_igtr 3 _ _ .i64 ((((s).size : Nat) : Int)) (200) true rfl rfl (decide_eq_true hs) ?_)
  (try simp only [Act.put, List.setIfInBounds_toArray, List.set_cons_zero, List.set_cons_succ])
  refine wl_nil ?_
  refine hK6 _ _ ?_
  (try clear hK6 K6)
  refine wp_cond_true rfl ?_
  refine wp_seq_k (fun K7 hK7 => ?_)
  refine wl_region ?_
  refine wl_give rfl (g_assign _ (.bool true) rfl ?_)
  (try simp only [Act.put, List.setIfInBounds_toArray, List.set_cons_zero, List.set_cons_succ])
  refine wl_nil ?_
  refine hK7 _ _ ?_
  (try clear hK7 K7)
  refine wp_ret ?_
  go_ret
  exact ⟨rfl, hM.below⟩
set_option maxHeartbeats 4000000 in
theorem walk_short (s u : ByteArray) (a i i1 : Int) (w : World) (hs : ¬ (200 : Int) < ((s.size : Nat) : Int)) (hu : Shut (s ++ ⟨#[120]⟩ = u)) (hcv : Shut (IntKind.i64.wrap a = a)) (hi : Shut (IntKind.i64.wrap (a + 1) = i)) (he1 : Shut (IntKind.i64.wrap (i + 1) = i1)) (hik : i ≤ 9223372036854775807) (hi1 : Shut (i1 ≤ 9223372036854775807))
    (e0 : Shut (bpE ((1 : Nat) : Int) 1 i s [] = 0)) (e1 : Shut (bpE ((1 : Nat) : Int) 1 i u ([] ++ [(i, s)]) = 4)) (e2 : Shut (bpE ((1 : Nat) : Int) 1 i1 s ([] ++ [(i, s)]) = 4)) (e3 : Shut (bpE ((1 : Nat) : Int) 1 i u [] = 0)) : Calls Try.prog 8 #[.string s, .int .u16 a] w fun e w' => e = .returned (.bool true) ∧ Below w.heap.size w w' := by
  have hM := Ms.refl w
  go_enter Try.func8, Try.ntmps8
  refine wp_seq_k (fun K1 hK1 => ?_)
  refine wl_region ?_
  refine wl_give rfl (g_assign _ (.bool false) rfl ?_)
  (try simp only [Act.put, List.setIfInBounds_toArray, List.set_cons_zero, List.set_cons_succ])
  refine wl_nil ?_
  refine hK1 _ _ ?_
  (try clear hK1 K1)
  refine wp_seq_k (fun K2 hK2 => ?_)
  refine wp_seq_k (fun K3 hK3 => ?_)
  refine wl_region ?_
  refine wl_give rfl (g_call 10 _ _ [] (kf10 _ _) rfl ((awake_any w).mono ?_))
  rintro e w4 ⟨rfl, t_⟩
  refine ⟨_, rfl, ?_⟩
  replace hM := hM.call t_
  clear t_
  (try simp only [Act.put, List.setIfInBounds_toArray, List.set_cons_zero, List.set_cons_succ])
  refine wl_give rfl (g_unot 4 _ true rfl ?_)
  (try simp only [Act.put, List.setIfInBounds_toArray, List.set_cons_zero, List.set_cons_succ])
  refine wl_nil ?_
  refine hK3 _ _ ?_
  (try clear hK3 K3)
  refine wp_cond_false rfl ?_
  refine wp_skip ?_
  refine hK2 _ _ ?_
  (try clear hK2 K2)
  refine wp_seq_k (fun K5 hK5 => ?_)
  refine wp_seq_k (fun K6 hK6 => ?_)
  refine wl_region ?_
  refine wl_give rfl (g_move _ (.string (s)) rfl ?_)
  (try simp only [Act.put, List.setIfInBounds_toArray, List.set_cons_zero, List.set_cons_succ])
  refine wl_give rfl (g_lenT _ (s) ((((s).size : Nat) : Int)) rfl rfl ?_)
  (try simp only [Act.put, List.setIfInBounds_toArray, List.set_cons_zero, List.set_cons_succ])
  refine wl_give rfl (g_igtr 3 _ _ .i64 ((((s).size : Nat) : Int)) (200) false rfl rfl (decide_eq_false hs) ?_)
  (try simp only [Act.put, List.setIfInBounds_toArray, List.set_cons_zero, List.set_cons_succ])
  refine wl_nil ?_
  refine hK6 _ _ ?_
  (try clear hK6 K6)
  refine wp_cond_false rfl ?_
  refine wp_skip ?_
  refine hK5 _ _ ?_
  (try clear hK5 K5)
  refine wp_seq_k (fun K7 hK7 => ?_)
  refine wl_region ?_
  refine wl_give rfl (g_call 11 _ _ [.int .i64 (1), .int .i64 (1)] (kf11 _ _) rfl ((new_any (1) (1) hM (by decide) (by decide) (by decide) (by decide)).mono ?_))
  rintro e w8 ⟨p9, rfl, h_⟩
  refine ⟨_, rfl, ?_⟩
  replace hM : Ms w w8 [bf p9 (1) (1) (0) ([])] := h_
  clear h_
  (try simp only [Act.put, List.setIfInBounds_toArray, List.set_cons_zero, List.set_cons_succ])
  refine wl_give rfl (g_move _ (.tuple #[.pointer (some ⟨p9, 0, none⟩), .int .i64 (0)]) rfl ?_)
  (try simp only [Act.put, List.setIfInBounds_toArray, List.set_cons_zero, List.set_cons_succ])
  refine wl_give rfl (g_extract _ #[.pointer (some ⟨p9, 0, none⟩), .int .i64 (0)] 0 (.pointer (some ⟨p9, 0, none⟩)) rfl rfl ?_)
  (try simp only [Act.put, List.setIfInBounds_toArray, List.set_cons_zero, List.set_cons_succ])
  refine wl_give rfl (g_extract _ #[.pointer (some ⟨p9, 0, none⟩), .int .i64 (0)] 1 (.int .i64 (0)) rfl rfl ?_)
  (try simp only [Act.put, List.setIfInBounds_toArray, List.set_cons_zero, List.set_cons_succ])
  refine wl_give rfl (g_assign _ (.pointer (some ⟨p9, 0, none⟩)) rfl ?_)
  (try simp only [Act.put, List.setIfInBounds_toArray, List.set_cons_zero, List.set_cons_succ])
  refine wl_give rfl (g_assign _ (.int .i64 (0)) rfl ?_)
  (try simp only [Act.put, List.setIfInBounds_toArray, List.set_cons_zero, List.set_cons_succ])
  refine wl_nil ?_
  refine hK7 _ _ ?_
  (try clear hK7 K7)
  refine wp_seq_k (fun K10 hK10 => ?_)
  refine wp_seq_k (fun K11 hK11 => ?_)
  refine wl_region ?_
  refine wl_give rfl (g_move _ (.pointer (some ⟨p9, 0, none⟩)) rfl ?_)
  (try simp only [Act.put, List.setIfInBounds_toArray, List.set_cons_zero, List.set_cons_succ])
  refine wl_give rfl (g_peq _ ((some ⟨p9, 0, none⟩)) false rfl rfl ?_)
  (try simp only [Act.put, List.setIfInBounds_toArray, List.set_cons_zero, List.set_cons_succ])
  refine wl_nil ?_
  refine hK11 _ _ ?_
  (try clear hK11 K11)
  refine wp_cond_false rfl ?_
  refine wp_skip ?_
  refine hK10 _ _ ?_
  (try clear hK10 K10)
  refine wp_seq_k (fun K12 hK12 => ?_)
  refine wl_region ?_
  refine wl_give rfl (g_move _ (.int .u16 (a)) rfl ?_)
  (try simp only [Act.put, List.setIfInBounds_toArray, List.set_cons_zero, List.set_cons_succ])
  refine wl_give rfl (g_cv_53_3 _ (a) (a) rfl (hcv.out) ?_)
  (try simp only [Act.put, List.setIfInBounds_toArray, List.set_cons_zero, List.set_cons_succ])
  refine wl_give rfl (g_ia 3 _ _ .i64 (a) (1) (i) rfl rfl hi.out ?_)
  (try simp only [Act.put, List.setIfInBounds_toArray, List.set_cons_zero, List.set_cons_succ])
  refine wl_give rfl (g_assign _ (.int .i64 (i)) rfl ?_)
  (try simp only [Act.put, List.setIfInBounds_toArray, List.set_cons_zero, List.set_cons_succ])
  refine wl_nil ?_
  refine hK12 _ _ ?_
  (try clear hK12 K12)
  refine wp_seq_k (fun K13 hK13 => ?_)
  refine wl_region ?_
  refine wl_give rfl (g_move _ (.pointer (some ⟨p9, 0, none⟩)) rfl ?_)
  (try simp only [Act.put, List.setIfInBounds_toArray, List.set_cons_zero, List.set_cons_succ])
  refine wl_give rfl (g_move _ (.int .i64 (i)) rfl ?_)
  (try simp only [Act.put, List.setIfInBounds_toArray, List.set_cons_zero, List.set_cons_succ])
  refine wl_give rfl (g_move _ (.string (s)) rfl ?_)
  (try simp only [Act.put, List.setIfInBounds_toArray, List.set_cons_zero, List.set_cons_succ])
  refine wl_give rfl (g_call 14 _ _ [.pointer (some ⟨p9, 0, none⟩), .int .i64 (i), .string (s)] (kf14 _ _) rfl ((put_0 hM (by decide) (by decide) (by omega) (by decide) (by decide) e0).mono ?_))
  rintro e w14 ⟨rfl, h_⟩
  refine ⟨_, rfl, ?_⟩
  replace hM : Ms w w14 [bf p9 (1) (1) (0) ([] ++ [(i, s)])] := h_
  clear h_
  (try simp only [Act.put, List.setIfInBounds_toArray, List.set_cons_zero, List.set_cons_succ])
  refine wl_give rfl (g_move _ (.pointer (some ⟨p9, 0, none⟩)) rfl ?_)
  (try simp only [Act.put, List.setIfInBounds_toArray, List.set_cons_zero, List.set_cons_succ])
  refine wl_give rfl (g_move _ (.int .i64 (i)) rfl ?_)
  (try simp only [Act.put, List.setIfInBounds_toArray, List.set_cons_zero, List.set_cons_succ])
  refine wl_give rfl (g_move _ (.string (s)) rfl ?_)
  (try simp only [Act.put, List.setIfInBounds_toArray, List.set_cons_zero, List.set_cons_succ])
  refine wl_give rfl (g_sadd 9 _ _ (s) (⟨#[120]⟩) (u) rfl rfl hu.out (by have h9 : (⟨#[120]⟩ : ByteArray).size = 1 := rfl; omega) ?_)
  (try simp only [Act.put, List.setIfInBounds_toArray, List.set_cons_zero, List.set_cons_succ])
  refine wl_give rfl (g_call 14 _ _ [.pointer (some ⟨p9, 0, none⟩), .int .i64 (i), .string (u)] (kf14 _ _) rfl ((put_4 hM (by decide) (by decide) (by omega) (by decide) (by decide) e1).mono ?_))
  rintro e w15 ⟨rfl, h_⟩
  refine ⟨_, rfl, ?_⟩
  replace hM : Ms w w15 [bf p9 (1) (1) (1) ([] ++ [(i, s)])] := h_
  clear h_
  (try simp only [Act.put, List.setIfInBounds_toArray, List.set_cons_zero, List.set_cons_succ])
  refine wl_give rfl (g_move _ (.pointer (some ⟨p9, 0, none⟩)) rfl ?_)
  (try simp only [Act.put, List.setIfInBounds_toArray, List.set_cons_zero, List.set_cons_succ])
  refine wl_give rfl (g_move _ (.int .i64 (i)) rfl ?_)
  (try simp only [Act.put, List.setIfInBounds_toArray, List.set_cons_zero, List.set_cons_succ])
  refine wl_give rfl (g_ia 3 _ _ .i64 (i) (1) (i1) rfl rfl he1.out ?_)
  (try simp only [Act.put, List.setIfInBounds_toArray, List.set_cons_zero, List.set_cons_succ])
  refine wl_give rfl (g_move _ (.string (s)) rfl ?_)
  (try simp only [Act.put, List.setIfInBounds_toArray, List.set_cons_zero, List.set_cons_succ])
  refine wl_give rfl (g_call 14 _ _ [.pointer (some ⟨p9, 0, none⟩), .int .i64 (i1), .string (s)] (kf14 _ _) rfl ((put_4 hM (by decide) (by decide) hi1.out (by decide) (by decide) e2).mono ?_))
  rintro e w16 ⟨rfl, h_⟩
  refine ⟨_, rfl, ?_⟩
  replace hM : Ms w w16 [bf p9 (1) (1) (2) ([] ++ [(i, s)])] := h_
  clear h_
  (try simp only [Act.put, List.setIfInBounds_toArray, List.set_cons_zero, List.set_cons_succ])
  refine wl_give rfl (g_assign _ (.int .i64 (0)) rfl ?_)
  (try simp only [Act.put, List.setIfInBounds_toArray, List.set_cons_zero, List.set_cons_succ])
  refine wl_give rfl (g_assign _ (.int .i64 (4)) rfl ?_)
  (try simp only [Act.put, List.setIfInBounds_toArray, List.set_cons_zero, List.set_cons_succ])
  refine wl_give rfl (g_assign _ (.int .i64 (4)) rfl ?_)
  (try simp only [Act.put, List.setIfInBounds_toArray, List.set_cons_zero, List.set_cons_succ])
  refine wl_nil ?_
  refine hK13 _ _ ?_
  (try clear hK13 K13)
  refine wp_seq_k (fun K17 hK17 => ?_)
  refine wl_region ?_
  refine wl_give rfl (g_move _ (.pointer (some ⟨p9, 0, none⟩)) rfl ?_)
  (try simp only [Act.put, List.setIfInBounds_toArray, List.set_cons_zero, List.set_cons_succ])
  refine wl_give rfl (g_move _ (.int .i64 (i)) rfl ?_)
  (try simp only [Act.put, List.setIfInBounds_toArray, List.set_cons_zero, List.set_cons_succ])
  refine wl_give rfl (g_call 17 _ _ [.pointer (some ⟨p9, 0, none⟩), .int .i64 (i)] (kf17 _ _) rfl ((to_row (take_v (ts := [s]) (L' := []) hM (by simp) (of_one i s) (not_one i s))).mono ?_))
  rintro e w18 ⟨o19, k20, rfl, h_⟩
  refine ⟨_, rfl, ?_⟩
  replace hM : Ms w w18 [row 9 1 (.slice o19 (1) k20) (1) (([s]).map Value.string), bf p9 (1) (1) (2) ([])] := h_
  clear h_
  (try simp only [Act.put, List.setIfInBounds_toArray, List.set_cons_zero, List.set_cons_succ])
  refine wl_give rfl (g_assign _ (.slice o19 (1) (k20)) rfl ?_)
  (try simp only [Act.put, List.setIfInBounds_toArray, List.set_cons_zero, List.set_cons_succ])
  refine wl_nil ?_
  refine hK17 _ _ ?_
  (try clear hK17 K17)
  refine wp_seq_k (fun K21 hK21 => ?_)
  refine wl_region ?_
  refine wl_give rfl (g_move _ (.pointer (some ⟨p9, 0, none⟩)) rfl ?_)
  (try simp only [Act.put, List.setIfInBounds_toArray, List.set_cons_zero, List.set_cons_succ])
  refine wl_give rfl (g_move _ (.int .i64 (i)) rfl ?_)
  (try simp only [Act.put, List.setIfInBounds_toArray, List.set_cons_zero, List.set_cons_succ])
  refine wl_give rfl (g_move _ (.string (s)) rfl ?_)
  (try simp only [Act.put, List.setIfInBounds_toArray, List.set_cons_zero, List.set_cons_succ])
  refine wl_give rfl (g_sadd 9 _ _ (s) (⟨#[120]⟩) (u) rfl rfl hu.out (by have h9 : (⟨#[120]⟩ : ByteArray).size = 1 := rfl; omega) ?_)
  (try simp only [Act.put, List.setIfInBounds_toArray, List.set_cons_zero, List.set_cons_succ])
  refine wl_give rfl (g_call 14 _ _ [.pointer (some ⟨p9, 0, none⟩), .int .i64 (i), .string (u)] (kf14 _ _) rfl ((put_0 (show Ms w w18 [bf p9 (1) (1) (2) ([]), row 9 1 (.slice o19 (1) k20) (1) (([s]).map Value.string)] from (hM.up 1 rfl)) (by decide) (by decide) (by omega) (by decide) (by decide) e3).mono ?_))
  rintro e w22 ⟨rfl, h_⟩
  refine ⟨_, rfl, ?_⟩
  replace hM : Ms w w22 [bf p9 (1) (1) (2) ([] ++ [(i, u)]), row 9 1 (.slice o19 (1) k20) (1) (([s]).map Value.string)] := h_
  clear h_
  (try simp only [Act.put, List.setIfInBounds_toArray, List.set_cons_zero, List.set_cons_succ])
  refine wl_give rfl (g_assign _ (.int .i64 (0)) rfl ?_)
  (try simp only [Act.put, List.setIfInBounds_toArray, List.set_cons_zero, List.set_cons_succ])
  refine wl_nil ?_
  refine hK21 _ _ ?_
  (try clear hK21 K21)
  refine wp_seq_k (fun K23 hK23 => ?_)
  refine wl_region ?_
  refine wl_give rfl (g_move _ (.pointer (some ⟨p9, 0, none⟩)) rfl ?_)
  (try simp only [Act.put, List.setIfInBounds_toArray, List.set_cons_zero, List.set_cons_succ])
  refine wl_give rfl (g_move _ (.int .i64 (i)) rfl ?_)
  (try simp only [Act.put, List.setIfInBounds_toArray, List.set_cons_zero, List.set_cons_succ])
  refine wl_give rfl (g_call 17 _ _ [.pointer (some ⟨p9, 0, none⟩), .int .i64 (i)] (kf17 _ _) rfl ((to_row (take_v (ts := [u]) (L' := []) hM (by simp) (of_one i u) (not_one i u))).mono ?_))
  rintro e w24 ⟨o25, k26, rfl, h_⟩
  refine ⟨_, rfl, ?_⟩
  replace hM : Ms w w24 [row 9 1 (.slice o25 (1) k26) (1) (([u]).map Value.string), bf p9 (1) (1) (2) ([]), row 9 1 (.slice o19 (1) k20) (1) (([s]).map Value.string)] := h_
  clear h_
  (try simp only [Act.put, List.setIfInBounds_toArray, List.set_cons_zero, List.set_cons_succ])
  refine wl_give rfl (g_assign _ (.slice o25 (1) (k26)) rfl ?_)
  (try simp only [Act.put, List.setIfInBounds_toArray, List.set_cons_zero, List.set_cons_succ])
  refine wl_nil ?_
  refine hK23 _ _ ?_
  (try clear hK23 K23)
  refine wp_seq_k (fun K27 hK27 => ?_)
  refine wl_region ?_
  refine wl_give rfl (g_move _ (.pointer (some ⟨p9, 0, none⟩)) rfl ?_)
  (try simp only [Act.put, List.setIfInBounds_toArray, List.set_cons_zero, List.set_cons_succ])
  refine wl_give rfl (g_move _ (.int .i64 (i)) rfl ?_)
  (try simp only [Act.put, List.setIfInBounds_toArray, List.set_cons_zero, List.set_cons_succ])
  refine wl_give rfl (g_move _ (.string (s)) rfl ?_)
  (try simp only [Act.put, List.setIfInBounds_toArray, List.set_cons_zero, List.set_cons_succ])
  refine wl_give rfl (g_call 14 _ _ [.pointer (some ⟨p9, 0, none⟩), .int .i64 (i), .string (s)] (kf14 _ _) rfl ((put_0 (show Ms w w24 [bf p9 (1) (1) (2) ([]), row 9 1 (.slice o25 (1) k26) (1) (([u]).map Value.string), row 9 1 (.slice o19 (1) k20) (1) (([s]).map Value.string)] from (hM.up 1 rfl)) (by decide) (by decide) (by omega) (by decide) (by decide) e0).mono ?_))
  rintro e w28 ⟨rfl, h_⟩
  refine ⟨_, rfl, ?_⟩
  replace hM : Ms w w28 [bf p9 (1) (1) (2) ([] ++ [(i, s)]), row 9 1 (.slice o25 (1) k26) (1) (([u]).map Value.string), row 9 1 (.slice o19 (1) k20) (1) (([s]).map Value.string)] := h_
  clear h_
  (try simp only [Act.put, List.setIfInBounds_toArray, List.set_cons_zero, List.set_cons_succ])
  refine wl_give rfl (g_assign _ (.int .i64 (0)) rfl ?_)
  (try simp only [Act.put, List.setIfInBounds_toArray, List.set_cons_zero, List.set_cons_succ])
  refine wl_nil ?_
  refine hK27 _ _ ?_
  (try clear hK27 K27)
  refine wp_seq_k (fun K29 hK29 => ?_)
  (try simp only [List.append_eq, List.cons_append, List.nil_append])
  refine wl_region ?_
  refine wl_give rfl (g_move _ (.int .i64 (0)) rfl ?_)
  (try simp only [Act.put, List.setIfInBounds_toArray, List.set_cons_zero, List.set_cons_succ])
  refine wl_give rfl (g_ieq 25 _ _ .i64 (0) (0) true rfl rfl (by decide) ?_)
  (try simp only [Act.put, List.setIfInBounds_toArray, List.set_cons_zero, List.set_cons_succ])
  refine wl_give rfl (g_move _ (.bool true) rfl ?_)
  (try simp only [Act.put, List.setIfInBounds_toArray, List.set_cons_zero, List.set_cons_succ])
  refine wl_give rfl (g_move _ (.int .i64 (4)) rfl ?_)
  (try simp only [Act.put, List.setIfInBounds_toArray, List.set_cons_zero, List.set_cons_succ])
  refine wl_give rfl (g_ieq 25 _ _ .i64 (4) (4) true rfl rfl (by decide) ?_)
  (try simp only [Act.put, List.setIfInBounds_toArray, List.set_cons_zero, List.set_cons_succ])
  refine wl_give rfl (g_pickt _ _ _ (.bool true) rfl rfl ?_)
  (try simp only [Act.put, List.setIfInBounds_toArray, List.set_cons_zero, List.set_cons_succ])
  refine wl_give rfl (g_move _ (.bool true) rfl ?_)
  (try simp only [Act.put, List.setIfInBounds_toArray, List.set_cons_zero, List.set_cons_succ])
  refine wl_give rfl (g_move _ (.int .i64 (4)) rfl ?_)
  (try simp only [Act.put, List.setIfInBounds_toArray, List.set_cons_zero, List.set_cons_succ])
  refine wl_give rfl (g_ieq 25 _ _ .i64 (4) (4) true rfl rfl (by decide) ?_)
  (try simp only [Act.put, List.setIfInBounds_toArray, List.set_cons_zero, List.set_cons_succ])
  refine wl_give rfl (g_pickt _ _ _ (.bool true) rfl rfl ?_)
  (try simp only [Act.put, List.setIfInBounds_toArray, List.set_cons_zero, List.set_cons_succ])
  refine wl_give rfl (g_move _ (.bool true) rfl ?_)
  (try simp only [Act.put, List.setIfInBounds_toArray, List.set_cons_zero, List.set_cons_succ])
  refine wl_give rfl (g_move _ (.slice o19 (1) (k20)) rfl ?_)
  (try simp only [Act.put, List.setIfInBounds_toArray, List.set_cons_zero, List.set_cons_succ])
  refine wl_give rfl (g_move _ (.string (s)) rfl ?_)
  (try simp only [Act.put, List.setIfInBounds_toArray, List.set_cons_zero, List.set_cons_succ])
  refine wl_give rfl (g_bs1 36 9 Try.underlying36 szof9 _ Try.zeroValue9 rfl _ (.string (s)) rfl rfl hM ?_)
  intro w30 h_
  replace hM : Ms w w30 [blk (w28.heap.size) [.string (s)] 9, bf p9 (1) (1) (2) ([] ++ [(i, s)]), row 9 1 (.slice o25 (1) k26) (1) (([u]).map Value.string), row 9 1 (.slice o19 (1) k20) (1) (([s]).map Value.string)] := h_
  clear h_
  (try simp only [Act.put, List.setIfInBounds_toArray, List.set_cons_zero, List.set_cons_succ])
  replace hM : Ms w w30 [row 9 1 (.slice (some ⟨w28.heap.size, 0, none⟩) 1 1) (1) (([s]).map Value.string), bf p9 (1) (1) (2) ([] ++ [(i, s)]), row 9 1 (.slice o25 (1) k26) (1) (([u]).map Value.string), row 9 1 (.slice o19 (1) k20) (1) (([s]).map Value.string)] := row_mk hM rfl (Nat.le_refl _) (by decide) (by simp) rfl
  refine wl_give rfl (g_call 16 _ _ [.slice o19 (1) (k20), .slice (some ⟨w28.heap.size, 0, none⟩) (1) (1)] (kf16 _ _) rfl ((texts_any (xs := [s]) (ys := [s]) (r := true) (show Ms w w30 [row 9 1 (.slice o19 (1) k20) (1) (([s]).map Value.string), row 9 1 (.slice (some ⟨w28.heap.size, 0, none⟩) 1 1) (1) (([s]).map Value.string), bf p9 (1) (1) (2) ([] ++ [(i, s)]), row 9 1 (.slice o25 (1) k26) (1) (([u]).map Value.string)] from (hM.up 3 rfl)) (by simp) (decide_eq_true rfl)).mono ?_))
  rintro e w31 ⟨rfl, h_⟩
  refine ⟨_, rfl, ?_⟩
  replace hM : Ms w w31 [row 9 1 (.slice o19 (1) k20) (1) (([s]).map Value.string), row 9 1 (.slice (some ⟨w28.heap.size, 0, none⟩) 1 1) (1) (([s]).map Value.string), bf p9 (1) (1) (2) ([] ++ [(i, s)]), row 9 1 (.slice o25 (1) k26) (1) (([u]).map Value.string)] := h_
  clear h_
  (try simp only [Act.put, List.setIfInBounds_toArray, List.set_cons_zero, List.set_cons_succ])
  refine wl_give rfl (g_pickt _ _ _ (.bool true) rfl rfl ?_)
  (try simp only [Act.put, List.setIfInBounds_toArray, List.set_cons_zero, List.set_cons_succ])
  refine wl_give rfl (g_move _ (.bool true) rfl ?_)
  (try simp only [Act.put, List.setIfInBounds_toArray, List.set_cons_zero, List.set_cons_succ])
  refine wl_give rfl (g_move _ (.int .i64 (0)) rfl ?_)
  (try simp only [Act.put, List.setIfInBounds_toArray, List.set_cons_zero, List.set_cons_succ])
  refine wl_give rfl (g_ieq 25 _ _ .i64 (0) (0) true rfl rfl (by decide) ?_)
  (try simp only [Act.put, List.setIfInBounds_toArray, List.set_cons_zero, List.set_cons_succ])
  refine wl_give rfl (g_pickt _ _ _ (.bool true) rfl rfl ?_)
  (try simp only [Act.put, List.setIfInBounds_toArray, List.set_cons_zero, List.set_cons_succ])
  refine wl_give rfl (g_move _ (.bool true) rfl ?_)
  (try simp only [Act.put, List.setIfInBounds_toArray, List.set_cons_zero, List.set_cons_succ])
  refine wl_give rfl (g_move _ (.slice o25 (1) (k26)) rfl ?_)
  (try simp only [Act.put, List.setIfInBounds_toArray, List.set_cons_zero, List.set_cons_succ])
  refine wl_give rfl (g_move _ (.string (s)) rfl ?_)
  (try simp only [Act.put, List.setIfInBounds_toArray, List.set_cons_zero, List.set_cons_succ])
  refine wl_give rfl (g_sadd 9 _ _ (s) (⟨#[120]⟩) (u) rfl rfl hu.out (by have h9 : (⟨#[120]⟩ : ByteArray).size = 1 := rfl; omega) ?_)
  (try simp only [Act.put, List.setIfInBounds_toArray, List.set_cons_zero, List.set_cons_succ])
  refine wl_give rfl (g_bs1 36 9 Try.underlying36 szof9 _ Try.zeroValue9 rfl _ (.string (u)) rfl rfl hM ?_)
  intro w32 h_
  replace hM : Ms w w32 [blk (w31.heap.size) [.string (u)] 9, row 9 1 (.slice o19 (1) k20) (1) (([s]).map Value.string), row 9 1 (.slice (some ⟨w28.heap.size, 0, none⟩) 1 1) (1) (([s]).map Value.string), bf p9 (1) (1) (2) ([] ++ [(i, s)]), row 9 1 (.slice o25 (1) k26) (1) (([u]).map Value.string)] := h_
  clear h_
  (try simp only [Act.put, List.setIfInBounds_toArray, List.set_cons_zero, List.set_cons_succ])
  replace hM : Ms w w32 [row 9 1 (.slice (some ⟨w31.heap.size, 0, none⟩) 1 1) (1) (([u]).map Value.string), row 9 1 (.slice o19 (1) k20) (1) (([s]).map Value.string), row 9 1 (.slice (some ⟨w28.heap.size, 0, none⟩) 1 1) (1) (([s]).map Value.string), bf p9 (1) (1) (2) ([] ++ [(i, s)]), row 9 1 (.slice o25 (1) k26) (1) (([u]).map Value.string)] := row_mk hM rfl (Nat.le_refl _) (by decide) (by simp) rfl
  refine wl_give rfl (g_call 16 _ _ [.slice o25 (1) (k26), .slice (some ⟨w31.heap.size, 0, none⟩) (1) (1)] (kf16 _ _) rfl ((texts_any (xs := [u]) (ys := [u]) (r := true) (show Ms w w32 [row 9 1 (.slice o25 (1) k26) (1) (([u]).map Value.string), row 9 1 (.slice (some ⟨w31.heap.size, 0, none⟩) 1 1) (1) (([u]).map Value.string), row 9 1 (.slice o19 (1) k20) (1) (([s]).map Value.string), row 9 1 (.slice (some ⟨w28.heap.size, 0, none⟩) 1 1) (1) (([s]).map Value.string), bf p9 (1) (1) (2) ([] ++ [(i, s)])] from (hM.up 4 rfl)) (by simp) (decide_eq_true rfl)).mono ?_))
  rintro e w33 ⟨rfl, h_⟩
  refine ⟨_, rfl, ?_⟩
  replace hM : Ms w w33 [row 9 1 (.slice o25 (1) k26) (1) (([u]).map Value.string), row 9 1 (.slice (some ⟨w31.heap.size, 0, none⟩) 1 1) (1) (([u]).map Value.string), row 9 1 (.slice o19 (1) k20) (1) (([s]).map Value.string), row 9 1 (.slice (some ⟨w28.heap.size, 0, none⟩) 1 1) (1) (([s]).map Value.string), bf p9 (1) (1) (2) ([] ++ [(i, s)])] := h_
  clear h_
  (try simp only [Act.put, List.setIfInBounds_toArray, List.set_cons_zero, List.set_cons_succ])
  refine wl_give rfl (g_pickt _ _ _ (.bool true) rfl rfl ?_)
  (try simp only [Act.put, List.setIfInBounds_toArray, List.set_cons_zero, List.set_cons_succ])
  refine wl_give rfl (g_move _ (.bool true) rfl ?_)
  (try simp only [Act.put, List.setIfInBounds_toArray, List.set_cons_zero, List.set_cons_succ])
  refine wl_give rfl (g_move _ (.int .i64 (0)) rfl ?_)
  (try simp only [Act.put, List.setIfInBounds_toArray, List.set_cons_zero, List.set_cons_succ])
  refine wl_give rfl (g_ieq 25 _ _ .i64 (0) (0) true rfl rfl (by decide) ?_)
  (try simp only [Act.put, List.setIfInBounds_toArray, List.set_cons_zero, List.set_cons_succ])
  refine wl_give rfl (g_pickt _ _ _ (.bool true) rfl rfl ?_)
  (try simp only [Act.put, List.setIfInBounds_toArray, List.set_cons_zero, List.set_cons_succ])
  refine wl_give rfl (g_move _ (.bool true) rfl ?_)
  (try simp only [Act.put, List.setIfInBounds_toArray, List.set_cons_zero, List.set_cons_succ])
  refine wl_give rfl (g_move _ (.pointer (some ⟨p9, 0, none⟩)) rfl ?_)
  (try simp only [Act.put, List.setIfInBounds_toArray, List.set_cons_zero, List.set_cons_succ])
  refine wl_give rfl (g_call 24 _ _ [.pointer (some ⟨p9, 0, none⟩)] (kf24 _ _) rfl ((keep1 4 rfl (fun R_ h_ => dropped_any h_) hM).mono ?_))
  rintro e w34 ⟨rfl, h_⟩
  refine ⟨_, rfl, ?_⟩
  replace hM : Ms w w34 [row 9 1 (.slice o25 (1) k26) (1) (([u]).map Value.string), row 9 1 (.slice (some ⟨w31.heap.size, 0, none⟩) 1 1) (1) (([u]).map Value.string), row 9 1 (.slice o19 (1) k20) (1) (([s]).map Value.string), row 9 1 (.slice (some ⟨w28.heap.size, 0, none⟩) 1 1) (1) (([s]).map Value.string), bf p9 (1) (1) (2) ([] ++ [(i, s)])] := h_
  clear h_
  (try simp only [Act.put, List.setIfInBounds_toArray, List.set_cons_zero, List.set_cons_succ])
  refine wl_give rfl (g_ieq 3 _ _ .i64 (2) (2) true rfl rfl (by decide) ?_)
  (try simp only [Act.put, List.setIfInBounds_toArray, List.set_cons_zero, List.set_cons_succ])
  refine wl_give rfl (g_pickt _ _ _ (.bool true) rfl rfl ?_)
  (try simp only [Act.put, List.setIfInBounds_toArray, List.set_cons_zero, List.set_cons_succ])
  refine wl_give rfl (g_move _ (.bool true) rfl ?_)
  (try simp only [Act.put, List.setIfInBounds_toArray, List.set_cons_zero, List.set_cons_succ])
  refine wl_give rfl (g_move _ (.pointer (some ⟨p9, 0, none⟩)) rfl ?_)
  (try simp only [Act.put, List.setIfInBounds_toArray, List.set_cons_zero, List.set_cons_succ])
  refine wl_give rfl (g_call 23 _ _ [.pointer (some ⟨p9, 0, none⟩)] (kf23 _ _) rfl ((keep1 4 rfl (fun R_ h_ => size_v (n := 1) h_ (by simp) (rfl)) hM).mono ?_))
  rintro e w35 ⟨rfl, h_⟩
  refine ⟨_, rfl, ?_⟩
  replace hM : Ms w w35 [row 9 1 (.slice o25 (1) k26) (1) (([u]).map Value.string), row 9 1 (.slice (some ⟨w31.heap.size, 0, none⟩) 1 1) (1) (([u]).map Value.string), row 9 1 (.slice o19 (1) k20) (1) (([s]).map Value.string), row 9 1 (.slice (some ⟨w28.heap.size, 0, none⟩) 1 1) (1) (([s]).map Value.string), bf p9 (1) (1) (2) ([] ++ [(i, s)])] := h_
  clear h_
  (try simp only [Act.put, List.setIfInBounds_toArray, List.set_cons_zero, List.set_cons_succ])
  refine wl_give rfl (g_ieq 3 _ _ .i64 (1) (1) true rfl rfl (by decide) ?_)
  (try simp only [Act.put, List.setIfInBounds_toArray, List.set_cons_zero, List.set_cons_succ])
  refine wl_give rfl (g_pickt _ _ _ (.bool true) rfl rfl ?_)
  (try simp only [Act.put, List.setIfInBounds_toArray, List.set_cons_zero, List.set_cons_succ])
  refine wl_give rfl (g_assign _ (.bool true) rfl ?_)
  (try simp only [Act.put, List.setIfInBounds_toArray, List.set_cons_zero, List.set_cons_succ])
  refine wl_nil ?_
  refine hK29 _ _ ?_
  (try clear hK29 K29)
  refine wp_ret ?_
  go_ret
  exact ⟨rfl, hM.below⟩
theorem walk (s : ByteArray) (a : Int) (w : World) (h : 0 ≤ a ∧ a < 65536) : Calls Try.prog 8 #[.string s, .int .u16 a] w fun e w' => e = .returned (.bool true) ∧ Below w.heap.size w w' := by
  by_cases hs : (200 : Int) < ((s.size : Nat) : Int)
  · exact walk_long s a w hs
  · exact walk_short s (s ++ ⟨#[120]⟩) a (a + 1) (a + 1 + 1) w hs ⟨rfl⟩ ⟨wrap_id _ (by omega) (by omega)⟩ ⟨wrap_id _ (by omega) (by omega)⟩ ⟨wrap_id _ (by omega) (by omega)⟩ (by omega) ⟨by omega⟩ ⟨bpE_first s (by omega) (by decide) (by decide)⟩ ⟨full_same (by omega) (ne_snoc s 120)⟩ ⟨full_other (by omega)⟩ ⟨bpE_first _ (by omega) (by decide) (by decide)⟩
end Go.Proofs.Ytpkjocibgmjhdaa.bufferAgain
