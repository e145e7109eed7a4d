/- Things of one interval are no matter to another one's. -/
import Derived.Test.YtpkjocibgmjhdaaBg
namespace Go.Proofs.Ytpkjocibgmjhdaa.bufferApart
set_option maxRecDepth 10000
open Go Go.RowKit
set_option linter.unusedVariables false
set_option linter.unusedSimpArgs false

structure Ap (L : List Thg) (j : Nat) : Prop where
  all : ∀ t ∈ L, t.1 = 3 ∨ t.1 = 7
  le : L.length ≤ j
theorem ap_nil : Ap [] 0 := ⟨(fun t ht => by cases ht), Nat.le_refl _⟩
theorem ap_add {L : List Thg} {j : Nat} (h : Ap L j) (k : Int) (hk : k = 3 ∨ k = 7) (s : ByteArray) : Ap (L ++ [(k, s)]) (j + 1) :=
  ⟨fun t ht => by
    rcases List.mem_append.1 ht with h1 | h1
    · exact h.all t h1
    · obtain rfl := List.mem_singleton.1 h1
      exact hk, by have := h.le; simp; omega⟩
theorem ap_same {L : List Thg} {j : Nat} (h : Ap L j) : Ap L (j + 1) := ⟨h.all, by have := h.le; omega⟩
theorem ap_seven {L : List Thg} {j : Nat} (h : Ap L j) : ∀ t ∈ notI 3 L, t.1 = 7 := fun t ht => by
  obtain ⟨h1, h2⟩ := List.mem_filter.1 ht
  rcases h.all t h1 with h3 | h3
  · simp [h3] at h2
  · exact h3
theorem ap_len {L : List Thg} {j : Nat} (h : Ap L j) : (ofI 7 L).length = (notI 3 L).length := by
  rw [← ofI_all (ap_seven h), ofI_notI, if_neg (by decide)]
set_option maxHeartbeats 4000000 in
theorem walk_many (ao : Option Addr) (n cap : Nat) (bo : Option Addr) (m cbp : Nat) (w : World) (hl : LV OkS w ao n) (hw : LV OkB w bo m) (hm : m ≤ 9223372036854775807) (hn : (60 : Int) < ((n : Nat) : Int)) : Calls Try.prog 7 #[.slice ao n cap, .slice bo m cbp] w fun e w' => e = .returned (.bool true) ∧ Below w.heap.size w w' := by
  have hM := Ms.refl w
  go_enter Try.func7, Try.ntmps7
  refine wp_seq_k (fun K1 hK1 => ?_)
  refine wl_region ?_
  refine wl_give rfl (g_assign _ (.bool false) rfl ?_)
  (try simp only [Act.put, List.setIfInBounds_toArray, List.set_cons_zero, List.set_cons_succ])
  refine wl_nil ?_
  refine hK1 _ _ ?_
  (try clear hK1 K1)
  refine wp_seq_k (fun K2 hK2 => ?_)
  refine wp_seq_k (fun K3 hK3 => ?_)
  refine wl_region ?_
  refine wl_give rfl (g_call 10 _ _ [] (kf10 _ _) rfl ((awake_any w).mono ?_))
  rintro e w4 ⟨rfl, t_⟩
  refine ⟨_, rfl, ?_⟩
  replace hM := hM.call t_
  clear t_
  (try simp only [Act.put, List.setIfInBounds_toArray, List.set_cons_zero, List.set_cons_succ])
  refine wl_give rfl (g_unot 4 _ true rfl ?_)
  (try simp only [Act.put, List.setIfInBounds_toArray, List.set_cons_zero, List.set_cons_succ])
  refine wl_nil ?_
  refine hK3 _ _ ?_
  (try clear hK3 K3)
  refine wp_cond_false rfl ?_
  refine wp_skip ?_
  refine hK2 _ _ ?_
  (try clear hK2 K2)
  refine wp_seq_k (fun K5 hK5 => ?_)
  refine wl_region ?_
  refine wl_give rfl (g_call 11 _ _ [.int .i64 (64), .int .i64 (2)] (kf11 _ _) rfl ((gnew (64) (2) hM (by decide) (by decide) (by decide) (by decide)).mono ?_))
  rintro e w6 ⟨p7, rfl, h_⟩
  refine ⟨_, rfl, ?_⟩
  replace hM : Ms w w6 [bg p7 (64) (2) (0) ([])] := h_
  clear h_
  (try simp only [Act.put, List.setIfInBounds_toArray, List.set_cons_zero, List.set_cons_succ])
  refine wl_give rfl (g_move _ (.tuple #[.pointer (some ⟨p7, 0, none⟩), .int .i64 (0)]) rfl ?_)
  (try simp only [Act.put, List.setIfInBounds_toArray, List.set_cons_zero, List.set_cons_succ])
  refine wl_give rfl (g_extract _ #[.pointer (some ⟨p7, 0, none⟩), .int .i64 (0)] 0 (.pointer (some ⟨p7, 0, none⟩)) rfl rfl ?_)
  (try simp only [Act.put, List.setIfInBounds_toArray, List.set_cons_zero, List.set_cons_succ])
  refine wl_give rfl (g_extract _ #[.pointer (some ⟨p7, 0, none⟩), .int .i64 (0)] 1 (.int .i64 (0)) rfl rfl ?_)
  (try simp only [Act.put, List.setIfInBounds_toArray, List.set_cons_zero, List.set_cons_succ])
  refine wl_give rfl (g_assign _ (.pointer (some ⟨p7, 0, none⟩)) rfl ?_)
  (try simp only [Act.put, List.setIfInBounds_toArray, List.set_cons_zero, List.set_cons_succ])
  refine wl_give rfl (g_assign _ (.int .i64 (0)) rfl ?_)
  (try simp only [Act.put, List.setIfInBounds_toArray, List.set_cons_zero, List.set_cons_succ])
  refine wl_nil ?_
  refine hK5 _ _ ?_
  (try clear hK5 K5)
  refine wp_seq_k (fun K8 hK8 => ?_)
  refine wp_seq_k (fun K9 hK9 => ?_)
  refine wl_region ?_
  refine wl_give rfl (g_move _ (.pointer (some ⟨p7, 0, none⟩)) rfl ?_)
  (try simp only [Act.put, List.setIfInBounds_toArray, List.set_cons_zero, List.set_cons_succ])
  refine wl_give rfl (g_peq _ ((some ⟨p7, 0, none⟩)) false rfl rfl ?_)
  (try simp only [Act.put, List.setIfInBounds_toArray, List.set_cons_zero, List.set_cons_succ])
  refine wl_give rfl (g_move _ (.bool false) rfl ?_)
  (try simp only [Act.put, List.setIfInBounds_toArray, List.set_cons_zero, List.set_cons_succ])
  refine wl_give rfl (g_move _ (.slice ao (n) (cap)) rfl ?_)
  (try simp only [Act.put, List.setIfInBounds_toArray, List.set_cons_zero, List.set_cons_succ])
  refine wl_give rfl (g_len _ 36 9 (ao) (n) (cap) (((n : Nat) : Int)) Try.underlying36 rfl rfl ?_)
  (try simp only [Act.put, List.setIfInBounds_toArray, List.set_cons_zero, List.set_cons_succ])
  refine wl_give rfl (g_igtr 3 _ _ .i64 (((n : Nat) : Int)) (60) true rfl rfl (decide_eq_true hn) ?_)
  (try simp only [Act.put, List.setIfInBounds_toArray, List.set_cons_zero, List.set_cons_succ])
  refine wl_give rfl (g_pickf _ _ _ (.bool true) rfl rfl ?_)
  (try simp only [Act.put, List.setIfInBounds_toArray, List.set_cons_zero, List.set_cons_succ])
  refine wl_nil ?_
  refine hK9 _ _ ?_
  (try clear hK9 K9)
  refine wp_cond_true rfl ?_
  refine wp_seq_k (fun K10 hK10 => ?_)
  refine wl_region ?_
  refine wl_give rfl (g_move _ (.pointer (some ⟨p7, 0, none⟩)) rfl ?_)
  (try simp only [Act.put, List.setIfInBounds_toArray, List.set_cons_zero, List.set_cons_succ])
  refine wl_give rfl (g_pn24 _ ((some ⟨p7, 0, none⟩)) true rfl rfl ?_)
  (try simp only [Act.put, List.setIfInBounds_toArray, List.set_cons_zero, List.set_cons_succ])
  refine wl_give rfl (g_assign _ (.bool true) rfl ?_)
  (try simp only [Act.put, List.setIfInBounds_toArray, List.set_cons_zero, List.set_cons_succ])
  refine wl_nil ?_
  refine hK10 _ _ ?_
  (try clear hK10 K10)
  refine wp_ret ?_
  go_ret
  exact ⟨rfl, hM.below⟩
set_option maxHeartbeats 4000000 in
theorem walk_few (ao : Option Addr) (n cap : Nat) (bo : Option Addr) (m cbp : Nat) (w : World) (hl : LV OkS w ao n) (hw : LV OkB w bo m) (hm : m ≤ 9223372036854775807) (hn : ¬ (60 : Int) < ((n : Nat) : Int)) : Calls Try.prog 7 #[.slice ao n cap, .slice bo m cbp] w fun e w' => e = .returned (.bool true) ∧ Below w.heap.size w w' := by
  have hM := Ms.refl w
  go_enter Try.func7, Try.ntmps7
  refine wp_seq_k (fun K1 hK1 => ?_)
  refine wl_region ?_
  refine wl_give rfl (g_assign _ (.bool false) rfl ?_)
  (try simp only [Act.put, List.setIfInBounds_toArray, List.set_cons_zero, List.set_cons_succ])
  refine wl_nil ?_
  refine hK1 _ _ ?_
  (try clear hK1 K1)
  refine wp_seq_k (fun K2 hK2 => ?_)
  refine wp_seq_k (fun K3 hK3 => ?_)
  refine wl_region ?_
  refine wl_give rfl (g_call 10 _ _ [] (kf10 _ _) rfl ((awake_any w).mono ?_))
  rintro e w4 ⟨rfl, t_⟩
  refine ⟨_, rfl, ?_⟩
  replace hM := hM.call t_
  clear t_
  (try simp only [Act.put, List.setIfInBounds_toArray, List.set_cons_zero, List.set_cons_succ])
  refine wl_give rfl (g_unot 4 _ true rfl ?_)
  (try simp only [Act.put, List.setIfInBounds_toArray, List.set_cons_zero, List.set_cons_succ])
  refine wl_nil ?_
  refine hK3 _ _ ?_
  (try clear hK3 K3)
  refine wp_cond_false rfl ?_
  refine wp_skip ?_
  refine hK2 _ _ ?_
  (try clear hK2 K2)
  refine wp_seq_k (fun K5 hK5 => ?_)
  refine wl_region ?_
  refine wl_give rfl (g_call 11 _ _ [.int .i64 (64), .int .i64 (2)] (kf11 _ _) rfl ((gnew (64) (2) hM (by decide) (by decide) (by decide) (by decide)).mono ?_))
  rintro e w6 ⟨p7, rfl, h_⟩
  refine ⟨_, rfl, ?_⟩
  replace hM : Ms w w6 [bg p7 (64) (2) (0) ([])] := h_
  clear h_
  (try simp only [Act.put, List.setIfInBounds_toArray, List.set_cons_zero, List.set_cons_succ])
  refine wl_give rfl (g_move _ (.tuple #[.pointer (some ⟨p7, 0, none⟩), .int .i64 (0)]) rfl ?_)
  (try simp only [Act.put, List.setIfInBounds_toArray, List.set_cons_zero, List.set_cons_succ])
  refine wl_give rfl (g_extract _ #[.pointer (some ⟨p7, 0, none⟩), .int .i64 (0)] 0 (.pointer (some ⟨p7, 0, none⟩)) rfl rfl ?_)
  (try simp only [Act.put, List.setIfInBounds_toArray, List.set_cons_zero, List.set_cons_succ])
  refine wl_give rfl (g_extract _ #[.pointer (some ⟨p7, 0, none⟩), .int .i64 (0)] 1 (.int .i64 (0)) rfl rfl ?_)
  (try simp only [Act.put, List.setIfInBounds_toArray, List.set_cons_zero, List.set_cons_succ])
  refine wl_give rfl (g_assign _ (.pointer (some ⟨p7, 0, none⟩)) rfl ?_)
  (try simp only [Act.put, List.setIfInBounds_toArray, List.set_cons_zero, List.set_cons_succ])
  refine wl_give rfl (g_assign _ (.int .i64 (0)) rfl ?_)
  (try simp only [Act.put, List.setIfInBounds_toArray, List.set_cons_zero, List.set_cons_succ])
  refine wl_nil ?_
  refine hK5 _ _ ?_
  (try clear hK5 K5)
  refine wp_seq_k (fun K8 hK8 => ?_)
  refine wp_seq_k (fun K9 hK9 => ?_)
  refine wl_region ?_
  refine wl_give rfl (g_move _ (.pointer (some ⟨p7, 0, none⟩)) rfl ?_)
  (try simp only [Act.put, List.setIfInBounds_toArray, List.set_cons_zero, List.set_cons_succ])
  refine wl_give rfl (g_peq _ ((some ⟨p7, 0, none⟩)) false rfl rfl ?_)
  (try simp only [Act.put, List.setIfInBounds_toArray, List.set_cons_zero, List.set_cons_succ])
  refine wl_give rfl (g_move _ (.bool false) rfl ?_)
  (try simp only [Act.put, List.setIfInBounds_toArray, List.set_cons_zero, List.set_cons_succ])
  refine wl_give rfl (g_move _ (.slice ao (n) (cap)) rfl ?_)
  (try simp only [Act.put, List.setIfInBounds_toArray, List.set_cons_zero, List.set_cons_succ])
  refine wl_give rfl (g_len _ 36 9 (ao) (n) (cap) (((n : Nat) : Int)) Try.underlying36 rfl rfl ?_)
  (try simp only [Act.put, List.setIfInBounds_toArray, List.set_cons_zero, List.set_cons_succ])
  refine wl_give rfl (g_igtr 3 _ _ .i64 (((n : Nat) : Int)) (60) false rfl rfl (decide_eq_false hn) ?_)
  (try simp only [Act.put, List.setIfInBounds_toArray, List.set_cons_zero, List.set_cons_succ])
  refine wl_give rfl (g_pickf _ _ _ (.bool false) rfl rfl ?_)
  (try simp only [Act.put, List.setIfInBounds_toArray, List.set_cons_zero, List.set_cons_succ])
  refine wl_nil ?_
  refine hK9 _ _ ?_
  (try clear hK9 K9)
  refine wp_cond_false rfl ?_
  refine wp_skip ?_
  refine hK8 _ _ ?_
  (try clear hK8 K8)
  refine wp_seq_k (fun K10 hK10 => ?_)
  refine wl_region ?_
  refine wl_give rfl (g_bs0 36 9 1 Try.underlying36 szof9 _ Try.zeroValue9 hM ?_)
  intro w11 h_
  replace hM : Ms w w11 [row 9 1 (.slice (some ⟨w6.heap.size, 0, none⟩) 0 0) (0) ([]), bg p7 (64) (2) (0) ([])] := h_
  clear h_
  (try simp only [Act.put, List.setIfInBounds_toArray, List.set_cons_zero, List.set_cons_succ])
  refine wl_give rfl (g_assign _ (.slice (some ⟨w6.heap.size, 0, none⟩) (0) (0)) rfl ?_)
  (try simp only [Act.put, List.setIfInBounds_toArray, List.set_cons_zero, List.set_cons_succ])
  refine wl_nil ?_
  refine hK10 _ _ ?_
  (try clear hK10 K10)
  refine wp_seq_k (fun K12 hK12 => ?_)
  have hcut : ∀ (j : Nat) (L : List Thg) (v t8 t9 t10 t32 t33 t34 t35 t36 t37 t38 t39 t40 t41 t42 t43 t44 t45 t46 t47 t48 t49 t50 t51 t52 t53 t54 t55 t56 t57 t58 t59 t60 t61 t62 t29 t30 t31 : Value) (wr : World) (hI : Shut (Ap L j)) (hj : j ≤ 60) (hM : Ms w wr [row 9 1 v ((ofI 7 L).length) ((ofI 7 L).map Value.string), bg p7 (64) (2) (j) (L)]), K12 ⟨#[.slice ao (n) (cap), .slice bo (m) (cbp), undef, undef, .bool false, .pointer (some ⟨p7, 0, none⟩), .int .i64 (0), v, t8, t9, t10, undef, undef, .bool true, .bool false, .tuple #[.pointer (some ⟨p7, 0, none⟩), .int .i64 (0)], .tuple #[.pointer (some ⟨p7, 0, none⟩), .int .i64 (0)], .pointer (some ⟨p7, 0, none⟩), .int .i64 (0), .pointer (some ⟨p7, 0, none⟩), .bool false, .bool false, .slice ao (n) (cap), .int .i64 (((n : Nat) : Int)), .bool false, .bool false, undef, undef, .slice (some ⟨w6.heap.size, 0, none⟩) (0) (0), t29, t30, t31, t32, t33, t34, t35, t36, t37, t38, t39, t40, t41, t42, t43, t44, t45, t46, t47, t48, t49, t50, t51, t52, t53, t54, t55, t56, t57, t58, t59, t60, t61, t62, undef, undef, undef, undef, undef, undef, undef, undef, undef, undef, undef, undef, undef, undef, undef, undef, undef, undef, undef, undef, undef, undef, undef, undef, undef, undef, undef, undef, undef, undef], []⟩ wr := by
    clear hM
    intro j L v t8 t9 t10 t32 t33 t34 t35 t36 t37 t38 t39 t40 t41 t42 t43 t44 t45 t46 t47 t48 t49 t50 t51 t52 t53 t54 t55 t56 t57 t58 t59 t60 t61 t62 t29 t30 t31 wr hI hj hM
    obtain ⟨o1, c1, rfl, _⟩ := row_slice hM
    have hlen3 := notI_length 3 L
    have hle := hI.out.le
    have hle3 := ofI_le 3 L
    have hs3 : Shut (IntKind.i64.wrap (((L.length : Nat) : Int) - (((ofI 3 L).length : Nat) : Int)) = (((notI 3 L).length : Nat) : Int)) := ⟨by rw [wrap_id _ (by omega) (by omega)]; omega⟩
    have hap := ap_len hI.out
    have h73 := ap_seven hI.out
    have hnl : (notI 3 L).length ≤ 60 := by omega
    have hol : (ofI 7 L).length ≤ 60 := by omega
    refine hK12 _ _ ?_
    clear hK12 K12
    refine wp_seq_k (fun K13 hK13 => ?_)
    refine wl_region ?_
    refine wl_give rfl (g_move _ (.pointer (some ⟨p7, 0, none⟩)) rfl ?_)
    (try simp only [Act.put, List.setIfInBounds_toArray, List.set_cons_zero, List.set_cons_succ])
    refine wl_give rfl (g_call 23 _ _ [.pointer (some ⟨p7, 0, none⟩)] (kf23 _ _) rfl ((keep1 1 rfl (fun R_ h_ => gsize (n := ((L.length : Nat) : Int)) h_ (by omega) (rfl)) hM).mono ?_))
    rintro e w14 ⟨rfl, h_⟩
    refine ⟨_, rfl, ?_⟩
    replace hM : Ms w w14 [row 9 1 (.slice o1 (ofI 7 L).length c1) ((ofI 7 L).length) ((ofI 7 L).map Value.string), bg p7 (64) (2) (j) (L)] := h_
    clear h_
    (try simp only [Act.put, List.setIfInBounds_toArray, List.set_cons_zero, List.set_cons_succ])
    refine wl_give rfl (g_assign _ (.int .i64 (((L.length : Nat) : Int))) rfl ?_)
    (try simp only [Act.put, List.setIfInBounds_toArray, List.set_cons_zero, List.set_cons_succ])
    refine wl_nil ?_
    refine hK13 _ _ ?_
    (try clear hK13 K13)
    refine wp_seq_k (fun K15 hK15 => ?_)
    refine wl_region ?_
    refine wl_give rfl (g_move _ (.pointer (some ⟨p7, 0, none⟩)) rfl ?_)
    (try simp only [Act.put, List.setIfInBounds_toArray, List.set_cons_zero, List.set_cons_succ])
    refine wl_give rfl (g_call 17 _ _ [.pointer (some ⟨p7, 0, none⟩), .int .i64 (3)] (kf17 _ _) rfl ((to_row (gtake (ts := ofI 3 L) (L' := notI 3 L) (show Ms w w14 [bg p7 (64) (2) (j) (L), row 9 1 (.slice o1 (ofI 7 L).length c1) ((ofI 7 L).length) ((ofI 7 L).map Value.string)] from (hM.up 1 rfl)) (by omega) (rfl) (rfl))).mono ?_))
    rintro e w16 ⟨o17, k18, rfl, h_⟩
    refine ⟨_, rfl, ?_⟩
    replace hM : Ms w w16 [row 9 1 (.slice o17 ((ofI 3 L).length) k18) ((ofI 3 L).length) ((ofI 3 L).map Value.string), bg p7 (64) (2) (j) (notI 3 L), row 9 1 (.slice o1 (ofI 7 L).length c1) ((ofI 7 L).length) ((ofI 7 L).map Value.string)] := h_
    clear h_
    (try simp only [Act.put, List.setIfInBounds_toArray, List.set_cons_zero, List.set_cons_succ])
    refine wl_give rfl (g_len _ 36 9 (o17) ((ofI 3 L).length) (k18) ((((ofI 3 L).length : Nat) : Int)) Try.underlying36 rfl rfl ?_)
    (try simp only [Act.put, List.setIfInBounds_toArray, List.set_cons_zero, List.set_cons_succ])
    refine wl_give rfl (g_assign _ (.int .i64 ((((ofI 3 L).length : Nat) : Int))) rfl ?_)
    (try simp only [Act.put, List.setIfInBounds_toArray, List.set_cons_zero, List.set_cons_succ])
    refine wl_nil ?_
    refine hK15 _ _ ?_
    (try clear hK15 K15)
    refine wp_seq_k (fun K19 hK19 => ?_)
    refine wl_region ?_
    refine wl_give rfl (g_move _ (.pointer (some ⟨p7, 0, none⟩)) rfl ?_)
    (try simp only [Act.put, List.setIfInBounds_toArray, List.set_cons_zero, List.set_cons_succ])
    refine wl_give rfl (g_call 23 _ _ [.pointer (some ⟨p7, 0, none⟩)] (kf23 _ _) rfl ((keep1 1 rfl (fun R_ h_ => gsize (n := (((notI 3 L).length : Nat) : Int)) h_ (by omega) (rfl)) hM).mono ?_))
    rintro e w20 ⟨rfl, h_⟩
    refine ⟨_, rfl, ?_⟩
    replace hM : Ms w w20 [row 9 1 (.slice o17 ((ofI 3 L).length) k18) ((ofI 3 L).length) ((ofI 3 L).map Value.string), bg p7 (64) (2) (j) (notI 3 L), row 9 1 (.slice o1 (ofI 7 L).length c1) ((ofI 7 L).length) ((ofI 7 L).map Value.string)] := h_
    clear h_
    (try simp only [Act.put, List.setIfInBounds_toArray, List.set_cons_zero, List.set_cons_succ])
    refine wl_give rfl (g_move _ (.int .i64 (((L.length : Nat) : Int))) rfl ?_)
    (try simp only [Act.put, List.setIfInBounds_toArray, List.set_cons_zero, List.set_cons_succ])
    refine wl_give rfl (g_move _ (.int .i64 ((((ofI 3 L).length : Nat) : Int))) rfl ?_)
    (try simp only [Act.put, List.setIfInBounds_toArray, List.set_cons_zero, List.set_cons_succ])
    refine wl_give rfl (g_isub 3 _ _ .i64 (((L.length : Nat) : Int)) ((((ofI 3 L).length : Nat) : Int)) ((((notI 3 L).length : Nat) : Int)) rfl rfl hs3.out ?_)
    (try simp only [Act.put, List.setIfInBounds_toArray, List.set_cons_zero, List.set_cons_succ])
    refine wl_give rfl (g_ieq 3 _ _ .i64 ((((notI 3 L).length : Nat) : Int)) ((((notI 3 L).length : Nat) : Int)) true rfl rfl (decide_eq_true rfl) ?_)
    (try simp only [Act.put, List.setIfInBounds_toArray, List.set_cons_zero, List.set_cons_succ])
    refine wl_give rfl (g_move _ (.bool true) rfl ?_)
    (try simp only [Act.put, List.setIfInBounds_toArray, List.set_cons_zero, List.set_cons_succ])
    refine wl_give rfl (g_move _ (.slice o1 ((ofI 7 L).length) (c1)) rfl ?_)
    (try simp only [Act.put, List.setIfInBounds_toArray, List.set_cons_zero, List.set_cons_succ])
    refine wl_give rfl (g_len _ 36 9 (o1) ((ofI 7 L).length) (c1) ((((ofI 7 L).length : Nat) : Int)) Try.underlying36 rfl rfl ?_)
    (try simp only [Act.put, List.setIfInBounds_toArray, List.set_cons_zero, List.set_cons_succ])
    refine wl_give rfl (g_move _ (.int .i64 (((L.length : Nat) : Int))) rfl ?_)
    (try simp only [Act.put, List.setIfInBounds_toArray, List.set_cons_zero, List.set_cons_succ])
    refine wl_give rfl (g_move _ (.int .i64 ((((ofI 3 L).length : Nat) : Int))) rfl ?_)
    (try simp only [Act.put, List.setIfInBounds_toArray, List.set_cons_zero, List.set_cons_succ])
    refine wl_give rfl (g_isub 3 _ _ .i64 (((L.length : Nat) : Int)) ((((ofI 3 L).length : Nat) : Int)) ((((notI 3 L).length : Nat) : Int)) rfl rfl hs3.out ?_)
    (try simp only [Act.put, List.setIfInBounds_toArray, List.set_cons_zero, List.set_cons_succ])
    refine wl_give rfl (g_ieq 3 _ _ .i64 ((((ofI 7 L).length : Nat) : Int)) ((((notI 3 L).length : Nat) : Int)) true rfl rfl (decide_eq_true (by rw [hap])) ?_)
    (try simp only [Act.put, List.setIfInBounds_toArray, List.set_cons_zero, List.set_cons_succ])
    refine wl_give rfl (g_pickt _ _ _ (.bool true) rfl rfl ?_)
    (try simp only [Act.put, List.setIfInBounds_toArray, List.set_cons_zero, List.set_cons_succ])
    refine wl_give rfl (g_move _ (.bool true) rfl ?_)
    (try simp only [Act.put, List.setIfInBounds_toArray, List.set_cons_zero, List.set_cons_succ])
    refine wl_give rfl (g_move _ (.pointer (some ⟨p7, 0, none⟩)) rfl ?_)
    (try simp only [Act.put, List.setIfInBounds_toArray, List.set_cons_zero, List.set_cons_succ])
    refine wl_give rfl (g_call 19 _ _ [.pointer (some ⟨p7, 0, none⟩), .int .i64 (7)] (kf19 _ _) rfl ((gdrop (n := 0) (L' := notI 3 L) (show Ms w w20 [bg p7 (64) (2) (j) (notI 3 L), row 9 1 (.slice o17 ((ofI 3 L).length) k18) ((ofI 3 L).length) ((ofI 3 L).map Value.string), row 9 1 (.slice o1 (ofI 7 L).length c1) ((ofI 7 L).length) ((ofI 7 L).map Value.string)] from (hM.up 1 rfl)) (by omega) (by rw [bdN_none (fun t ht => by rw [h73 t ht]; decide)]; rfl) (notB_all (fun t ht => by rw [h73 t ht]; decide))).mono ?_))
    rintro e w21 ⟨rfl, h_⟩
    refine ⟨_, rfl, ?_⟩
    replace hM : Ms w w21 [bg p7 (64) (2) (j) (notI 3 L), row 9 1 (.slice o17 ((ofI 3 L).length) k18) ((ofI 3 L).length) ((ofI 3 L).map Value.string), row 9 1 (.slice o1 (ofI 7 L).length c1) ((ofI 7 L).length) ((ofI 7 L).map Value.string)] := h_
    clear h_
    (try simp only [Act.put, List.setIfInBounds_toArray, List.set_cons_zero, List.set_cons_succ])
    refine wl_give rfl (g_ieq 3 _ _ .i64 (0) (0) true rfl rfl (by decide) ?_)
    (try simp only [Act.put, List.setIfInBounds_toArray, List.set_cons_zero, List.set_cons_succ])
    refine wl_give rfl (g_pickt _ _ _ (.bool true) rfl rfl ?_)
    (try simp only [Act.put, List.setIfInBounds_toArray, List.set_cons_zero, List.set_cons_succ])
    refine wl_give rfl (g_move _ (.bool true) rfl ?_)
    (try simp only [Act.put, List.setIfInBounds_toArray, List.set_cons_zero, List.set_cons_succ])
    refine wl_give rfl (g_move _ (.pointer (some ⟨p7, 0, none⟩)) rfl ?_)
    (try simp only [Act.put, List.setIfInBounds_toArray, List.set_cons_zero, List.set_cons_succ])
    refine wl_give rfl (g_call 17 _ _ [.pointer (some ⟨p7, 0, none⟩), .int .i64 (7)] (kf17 _ _) rfl ((to_row (gtake (ts := ofI 7 L) (L' := notI 7 (notI 3 L)) hM (by omega) (by rw [ofI_notI, if_neg (by decide)]) (rfl))).mono ?_))
    rintro e w22 ⟨o23, k24, rfl, h_⟩
    refine ⟨_, rfl, ?_⟩
    replace hM : Ms w w22 [row 9 1 (.slice o23 ((ofI 7 L).length) k24) ((ofI 7 L).length) ((ofI 7 L).map Value.string), bg p7 (64) (2) (j) (notI 7 (notI 3 L)), row 9 1 (.slice o17 ((ofI 3 L).length) k18) ((ofI 3 L).length) ((ofI 3 L).map Value.string), row 9 1 (.slice o1 (ofI 7 L).length c1) ((ofI 7 L).length) ((ofI 7 L).map Value.string)] := h_
    clear h_
    (try simp only [Act.put, List.setIfInBounds_toArray, List.set_cons_zero, List.set_cons_succ])
    refine wl_give rfl (g_move _ (.slice o1 ((ofI 7 L).length) (c1)) rfl ?_)
    (try simp only [Act.put, List.setIfInBounds_toArray, List.set_cons_zero, List.set_cons_succ])
    refine wl_give rfl (g_call 16 _ _ [.slice o23 ((ofI 7 L).length) (k24), .slice o1 ((ofI 7 L).length) (c1)] (kf16 _ _) rfl ((texts_any (xs := ofI 7 L) (ys := ofI 7 L) (r := true) (show Ms w w22 [row 9 1 (.slice o23 ((ofI 7 L).length) k24) ((ofI 7 L).length) ((ofI 7 L).map Value.string), row 9 1 (.slice o1 (ofI 7 L).length c1) ((ofI 7 L).length) ((ofI 7 L).map Value.string), bg p7 (64) (2) (j) (notI 7 (notI 3 L)), row 9 1 (.slice o17 ((ofI 3 L).length) k18) ((ofI 3 L).length) ((ofI 3 L).map Value.string)] from ((hM.up 3 rfl).up 1 rfl)) (by omega) (decide_eq_true rfl)).mono ?_))
    rintro e w25 ⟨rfl, h_⟩
    refine ⟨_, rfl, ?_⟩
    replace hM : Ms w w25 [row 9 1 (.slice o23 ((ofI 7 L).length) k24) ((ofI 7 L).length) ((ofI 7 L).map Value.string), row 9 1 (.slice o1 (ofI 7 L).length c1) ((ofI 7 L).length) ((ofI 7 L).map Value.string), bg p7 (64) (2) (j) (notI 7 (notI 3 L)), row 9 1 (.slice o17 ((ofI 3 L).length) k18) ((ofI 3 L).length) ((ofI 3 L).map Value.string)] := h_
    clear h_
    (try simp only [Act.put, List.setIfInBounds_toArray, List.set_cons_zero, List.set_cons_succ])
    refine wl_give rfl (g_pickt _ _ _ (.bool true) rfl rfl ?_)
    (try simp only [Act.put, List.setIfInBounds_toArray, List.set_cons_zero, List.set_cons_succ])
    refine wl_give rfl (g_assign _ (.bool true) rfl ?_)
    (try simp only [Act.put, List.setIfInBounds_toArray, List.set_cons_zero, List.set_cons_succ])
    refine wl_nil ?_
    refine hK19 _ _ ?_
    (try clear hK19 K19)
    refine wp_ret ?_
    go_ret
    exact ⟨rfl, hM.below⟩
  (try clear hK12)
  refine wp_seq_k (fun K26 hK26 => ?_)
  refine wl_region ?_
  refine wl_give rfl (g_move _ (.slice ao (n) (cap)) rfl ?_)
  (try simp only [Act.put, List.setIfInBounds_toArray, List.set_cons_zero, List.set_cons_succ])
  refine wl_give rfl (g_len _ 36 9 (ao) (n) (cap) (((n : Nat) : Int)) Try.underlying36 rfl rfl ?_)
  (try simp only [Act.put, List.setIfInBounds_toArray, List.set_cons_zero, List.set_cons_succ])
  refine wl_give rfl (g_move _ (.int .i64 (0)) rfl ?_)
  (try simp only [Act.put, List.setIfInBounds_toArray, List.set_cons_zero, List.set_cons_succ])
  refine wl_nil ?_
  refine hK26 _ _ ?_
  (try clear hK26 K26)
  refine wp_block ?_
  have h9 := ((hM.up 1 rfl).up 1 rfl)
  refine wp_rounds (fun r a wr => ∃ (j : Nat) (L : List Thg) (v t8 t9 t10 t32 t33 t34 t35 t36 t37 t38 t39 t40 t41 t42 t43 t44 t45 t46 t47 t48 t49 t50 t51 t52 t53 t54 t55 t56 t57 t58 t59 t60 t61 t62 : Value), a = ⟨#[.slice ao (n) (cap), .slice bo (m) (cbp), undef, undef, .bool false, .pointer (some ⟨p7, 0, none⟩), .int .i64 (0), v, t8, t9, t10, undef, undef, .bool true, .bool false, .tuple #[.pointer (some ⟨p7, 0, none⟩), .int .i64 (0)], .tuple #[.pointer (some ⟨p7, 0, none⟩), .int .i64 (0)], .pointer (some ⟨p7, 0, none⟩), .int .i64 (0), .pointer (some ⟨p7, 0, none⟩), .bool false, .bool false, .slice ao (n) (cap), .int .i64 (((n : Nat) : Int)), .bool false, .bool false, undef, undef, .slice (some ⟨w6.heap.size, 0, none⟩) (0) (0), .slice ao (n) (cap), .int .i64 (((n : Nat) : Int)), .int .i64 ((j : Nat) : Int), t32, t33, t34, t35, t36, t37, t38, t39, t40, t41, t42, t43, t44, t45, t46, t47, t48, t49, t50, t51, t52, t53, t54, t55, t56, t57, t58, t59, t60, t61, t62, undef, undef, undef, undef, undef, undef, undef, undef, undef, undef, undef, undef, undef, undef, undef, undef, undef, undef, undef, undef, undef, undef, undef, undef, undef, undef, undef, undef, undef, undef], []⟩ ∧ j + r = n ∧ Shut (Ap L j) ∧ Ms w wr [row 9 1 v ((ofI 7 L).length) ((ofI 7 L).map Value.string), bg p7 (64) (2) (j) (L)]) n ⟨0, [], _, _, _, _, _, _, _, _, _, _, _, _, _, _, _, _, _, _, _, _, _, _, _, _, _, _, _, _, _, _, _, _, _, _, _, rfl, Nat.zero_add _, ⟨ap_nil⟩, h9⟩ ?_
  clear hM h9
  rintro r a wr ⟨j, L, v, t8, t9, t10, t32, t33, t34, t35, t36, t37, t38, t39, t40, t41, t42, t43, t44, t45, t46, t47, t48, t49, t50, t51, t52, t53, t54, t55, t56, t57, t58, t59, t60, t61, t62, rfl, hj, hI, hM⟩
  by_cases h1 : ((j : Nat) : Int) < ((n : Nat) : Int)
  · skip
    obtain ⟨b, o, u, rfl, hcell, s, rfl⟩ := hl.on hM j (by omega)
    have hjn : j < n := by omega
    have hj1 : Shut (IntKind.i64.wrap (((j : Nat) : Int) + 1) = ((j + 1 : Nat) : Int)) := ⟨by rw [wrap_id _ (by omega) (by omega)]; omega⟩
    refine wp_seq_k (fun K27 hK27 => ?_)
    refine wl_region ?_
    refine wl_give rfl (g_ilss 3 _ _ .i64 (((j : Nat) : Int)) (((n : Nat) : Int)) true rfl rfl (decide_eq_true h1) ?_)
    (try simp only [Act.put, List.setIfInBounds_toArray, List.set_cons_zero, List.set_cons_succ])
    refine wl_nil ?_
    refine hK27 _ _ ?_
    (try clear hK27 K27)
    refine wp_seq_k (fun K28 hK28 => ?_)
    refine wp_cond_true rfl ?_
    refine wp_skip ?_
    refine hK28 _ _ ?_
    (try clear hK28 K28)
    refine wp_seq_k (fun K29 hK29 => ?_)
    refine wp_block ?_
    refine wp_seq_k (fun K30 hK30 => ?_)
    refine wl_region ?_
    refine wl_give rfl (g_move _ (.int .i64 (((j : Nat) : Int))) rfl ?_)
    (try simp only [Act.put, List.setIfInBounds_toArray, List.set_cons_zero, List.set_cons_succ])
    refine wl_give rfl (g_ix _ _ 36 9 1 Try.underlying36 szof9 b o n cap j (o + j * 1) _ rfl rfl rfl hjn rfl ?_)
    (try simp only [Act.put, List.setIfInBounds_toArray, List.set_cons_zero, List.set_cons_succ])
    refine wl_give rfl (g_ld1 9 _ (b) (o + j * 1) _ rfl (ld9 _ _ _ _ (by rw [Nat.mul_one]; exact hcell)) ?_)
    (try simp only [Act.put, List.setIfInBounds_toArray, List.set_cons_zero, List.set_cons_succ])
    refine wl_give rfl (g_assign _ (.int .i64 (((j : Nat) : Int))) rfl ?_)
    (try simp only [Act.put, List.setIfInBounds_toArray, List.set_cons_zero, List.set_cons_succ])
    refine wl_give rfl (g_assign _ (.string (s)) rfl ?_)
    (try simp only [Act.put, List.setIfInBounds_toArray, List.set_cons_zero, List.set_cons_succ])
    refine wl_nil ?_
    refine hK30 _ _ ?_
    (try clear hK30 K30)
    refine wp_seq_k (fun K31 hK31 => ?_)
    by_cases hs : (200 : Int) < ((s.size : Nat) : Int)
    · skip
      refine wp_seq_k (fun K32 hK32 => ?_)
      refine wl_region ?_
      refine wl_give rfl (g_move _ (.string (s)) rfl ?_)
      (try simp only [Act.put, List.setIfInBounds_toArray, List.set_cons_zero, List.set_cons_succ])
      refine wl_give rfl (g_lenT _ (s) ((((s).size : Nat) : Int)) rfl rfl ?_)
      (try simp only [Act.put, List.setIfInBounds_toArray, List.set_cons_zero, List.set_cons_succ])
      refine wl_give rfl (g_igtr 3 _ _ .i64 ((((s).size : Nat) : Int)) (200) true rfl rfl (decide_eq_true hs) ?_)
      (try simp only [Act.put, List.setIfInBounds_toArray, List.set_cons_zero, List.set_cons_succ])
      refine wl_nil ?_
      refine hK32 _ _ ?_
      (try clear hK32 K32)
      refine wp_cond_true rfl ?_
      refine wp_seq_k (fun K33 hK33 => ?_)
      refine wl_region ?_
      refine wl_give rfl (g_assign _ (.bool true) rfl ?_)
      (try simp only [Act.put, List.setIfInBounds_toArray, List.set_cons_zero, List.set_cons_succ])
      refine wl_nil ?_
      refine hK33 _ _ ?_
      (try clear hK33 K33)
      refine wp_ret ?_
      go_ret
      exact ⟨rfl, hM.below⟩
    · skip
      refine wp_seq_k (fun K34 hK34 => ?_)
      refine wl_region ?_
      refine wl_give rfl (g_move _ (.string (s)) rfl ?_)
      (try simp only [Act.put, List.setIfInBounds_toArray, List.set_cons_zero, List.set_cons_succ])
      refine wl_give rfl (g_lenT _ (s) ((((s).size : Nat) : Int)) rfl rfl ?_)
      (try simp only [Act.put, List.setIfInBounds_toArray, List.set_cons_zero, List.set_cons_succ])
      refine wl_give rfl (g_igtr 3 _ _ .i64 ((((s).size : Nat) : Int)) (200) false rfl rfl (decide_eq_false hs) ?_)
      (try simp only [Act.put, List.setIfInBounds_toArray, List.set_cons_zero, List.set_cons_succ])
      refine wl_nil ?_
      refine hK34 _ _ ?_
      (try clear hK34 K34)
      refine wp_cond_false rfl ?_
      refine wp_skip ?_
      refine hK31 _ _ ?_
      (try clear hK31 K31)
      refine wp_seq_k (fun K35 hK35 => ?_)
      refine wl_region ?_
      refine wl_give rfl (g_assign _ (.int .i64 (3)) rfl ?_)
      (try simp only [Act.put, List.setIfInBounds_toArray, List.set_cons_zero, List.set_cons_succ])
      refine wl_nil ?_
      refine hK35 _ _ ?_
      (try clear hK35 K35)
      refine wp_seq_k (fun K36 hK36 => ?_)
      by_cases h2 : ((j : Nat) : Int) < ((m : Nat) : Int)
      · obtain ⟨b2, o2, u2, rfl, hcell2, bb, rfl⟩ := hw.on hM j (by omega)
        have hjm : j < m := by omega
        cases bb with
        | true =>
          refine wp_seq_k (fun K37 hK37 => ?_)
          refine wl_region ?_
          refine wl_give rfl (g_move _ (.int .i64 (((j : Nat) : Int))) rfl ?_)
          (try simp only [Act.put, List.setIfInBounds_toArray, List.set_cons_zero, List.set_cons_succ])
          refine wl_give rfl (g_move _ (.slice (some ⟨b2, o2, none⟩) (m) (cbp)) rfl ?_)
          (try simp only [Act.put, List.setIfInBounds_toArray, List.set_cons_zero, List.set_cons_succ])
          refine wl_give rfl (g_len _ 51 4 ((some ⟨b2, o2, none⟩)) (m) (cbp) (((m : Nat) : Int)) Try.underlying51 rfl rfl ?_)
          (try simp only [Act.put, List.setIfInBounds_toArray, List.set_cons_zero, List.set_cons_succ])
          refine wl_give rfl (g_ilss 3 _ _ .i64 (((j : Nat) : Int)) (((m : Nat) : Int)) true rfl rfl (decide_eq_true h2) ?_)
          (try simp only [Act.put, List.setIfInBounds_toArray, List.set_cons_zero, List.set_cons_succ])
          refine wl_give rfl (g_move _ (.bool true) rfl ?_)
          (try simp only [Act.put, List.setIfInBounds_toArray, List.set_cons_zero, List.set_cons_succ])
          refine wl_give rfl (g_move _ (.slice (some ⟨b2, o2, none⟩) (m) (cbp)) rfl ?_)
          (try simp only [Act.put, List.setIfInBounds_toArray, List.set_cons_zero, List.set_cons_succ])
          refine wl_give rfl (g_move _ (.int .i64 (((j : Nat) : Int))) rfl ?_)
          (try simp only [Act.put, List.setIfInBounds_toArray, List.set_cons_zero, List.set_cons_succ])
          refine wl_give rfl (g_ix _ _ 51 4 1 Try.underlying51 szof4 b2 o2 m cbp j (o2 + j * 1) _ rfl rfl rfl hjm rfl ?_)
          (try simp only [Act.put, List.setIfInBounds_toArray, List.set_cons_zero, List.set_cons_succ])
          refine wl_give rfl (g_ld1 4 _ (b2) (o2 + j * 1) _ rfl (ld4 _ _ _ _ (by rw [Nat.mul_one]; exact hcell2)) ?_)
          (try simp only [Act.put, List.setIfInBounds_toArray, List.set_cons_zero, List.set_cons_succ])
          refine wl_give rfl (g_pickt _ _ _ (.bool true) rfl rfl ?_)
          (try simp only [Act.put, List.setIfInBounds_toArray, List.set_cons_zero, List.set_cons_succ])
          refine wl_nil ?_
          refine hK37 _ _ ?_
          (try clear hK37 K37)
          refine wp_cond_true rfl ?_
          refine wl_region ?_
          refine wl_give rfl (g_assign _ (.int .i64 (7)) rfl ?_)
          (try simp only [Act.put, List.setIfInBounds_toArray, List.set_cons_zero, List.set_cons_succ])
          refine wl_nil ?_
          refine hK36 _ _ ?_
          (try clear hK36 K36)
          obtain ⟨e, he⟩ : ∃ e, bpE ((64 : Nat) : Int) 2 7 s L = e := ⟨_, rfl⟩
          by_cases he0 : e = 0
          · subst he0
            refine wp_seq_k (fun K38 hK38 => ?_)
            refine wl_region ?_
            refine wl_give rfl (g_move _ (.pointer (some ⟨p7, 0, none⟩)) rfl ?_)
            (try simp only [Act.put, List.setIfInBounds_toArray, List.set_cons_zero, List.set_cons_succ])
            refine wl_give rfl (g_move _ (.int .i64 (7)) rfl ?_)
            (try simp only [Act.put, List.setIfInBounds_toArray, List.set_cons_zero, List.set_cons_succ])
            refine wl_give rfl (g_move _ (.string (s)) rfl ?_)
            (try simp only [Act.put, List.setIfInBounds_toArray, List.set_cons_zero, List.set_cons_succ])
            refine wl_give rfl (g_call 14 _ _ [.pointer (some ⟨p7, 0, none⟩), .int .i64 (7), .string (s)] (kf14 _ _) rfl ((gput_0 (show Ms w wr [bg p7 (64) (2) (j) (L), row 9 1 v ((ofI 7 L).length) ((ofI 7 L).map Value.string)] from (hM.up 1 rfl)) (by decide) (by decide) (by decide) (by omega) ⟨he⟩).mono ?_))
            rintro e w39 ⟨rfl, h_⟩
            refine ⟨_, rfl, ?_⟩
            replace hM : Ms w w39 [bg p7 (64) (2) (j) (L ++ [(7, s)]), row 9 1 v ((ofI 7 L).length) ((ofI 7 L).map Value.string)] := h_
            clear h_
            (try simp only [Act.put, List.setIfInBounds_toArray, List.set_cons_zero, List.set_cons_succ])
            refine wl_give rfl (g_ieq 25 _ _ .i64 (0) (0) true rfl rfl (by decide) ?_)
            (try simp only [Act.put, List.setIfInBounds_toArray, List.set_cons_zero, List.set_cons_succ])
            refine wl_give rfl (g_move _ (.bool true) rfl ?_)
            (try simp only [Act.put, List.setIfInBounds_toArray, List.set_cons_zero, List.set_cons_succ])
            refine wl_give rfl (g_move _ (.int .i64 (7)) rfl ?_)
            (try simp only [Act.put, List.setIfInBounds_toArray, List.set_cons_zero, List.set_cons_succ])
            refine wl_give rfl (g_ieq 3 _ _ .i64 (7) (7) true rfl rfl (by decide) ?_)
            (try simp only [Act.put, List.setIfInBounds_toArray, List.set_cons_zero, List.set_cons_succ])
            refine wl_give rfl (g_pickt _ _ _ (.bool true) rfl rfl ?_)
            (try simp only [Act.put, List.setIfInBounds_toArray, List.set_cons_zero, List.set_cons_succ])
            refine wl_nil ?_
            refine hK38 _ _ ?_
            (try clear hK38 K38)
            refine wp_cond_true rfl ?_
            refine wl_region ?_
            refine wl_give rfl (g_move _ (v) rfl ?_)
            (try simp only [Act.put, List.setIfInBounds_toArray, List.set_cons_zero, List.set_cons_succ])
            refine wl_give rfl (g_move _ (.string (s)) rfl ?_)
            (try simp only [Act.put, List.setIfInBounds_toArray, List.set_cons_zero, List.set_cons_succ])
            refine wl_give rfl (g_bs1 36 9 Try.underlying36 szof9 _ Try.zeroValue9 rfl _ (.string (s)) rfl rfl hM ?_)
            intro w40 h_
            replace hM : Ms w w40 [blk (w39.heap.size) [.string (s)] 9, bg p7 (64) (2) (j) (L ++ [(7, s)]), row 9 1 v ((ofI 7 L).length) ((ofI 7 L).map Value.string)] := h_
            clear h_
            (try simp only [Act.put, List.setIfInBounds_toArray, List.set_cons_zero, List.set_cons_succ])
            refine wl_give rfl (g_apS _ _ (v) ((ofI 7 L).length) ((ofI 7 L).map Value.string) (w39.heap.size) 1 ([.string (s)]) 9 rfl rfl (show Ms w w40 [row 9 1 v ((ofI 7 L).length) ((ofI 7 L).map Value.string), blk (w39.heap.size) [.string (s)] 9, bg p7 (64) (2) (j) (L ++ [(7, s)])] from (hM.up 2 rfl)) rfl (by simp [Value.oneCell']) (by have := ofI_le 7 L; have := hI.out.le; omega) ?_)
            intro v42 w41 h_
            replace hM : Ms w w41 [row 9 1 v42 ((ofI 7 L).length + 1) ((ofI 7 L).map Value.string ++ [.string (s)]), blk (w39.heap.size) [.string (s)] 9, bg p7 (64) (2) (j) (L ++ [(7, s)])] := h_
            clear h_
            (try simp only [Act.put, List.setIfInBounds_toArray, List.set_cons_zero, List.set_cons_succ])
            refine wl_give rfl (g_assign _ (v42) rfl ?_)
            (try simp only [Act.put, List.setIfInBounds_toArray, List.set_cons_zero, List.set_cons_succ])
            refine wl_nil ?_
            refine hK29 _ _ ?_
            (try clear hK29 K29)
            refine wl_region ?_
            refine wl_give rfl (g_ia 3 _ _ .i64 (((j : Nat) : Int)) (1) (((j + 1 : Nat) : Int)) rfl rfl (hj1.out) ?_)
            (try simp only [Act.put, List.setIfInBounds_toArray, List.set_cons_zero, List.set_cons_succ])
            refine wl_give rfl (g_move _ (.int .i64 (((j + 1 : Nat) : Int))) rfl ?_)
            (try simp only [Act.put, List.setIfInBounds_toArray, List.set_cons_zero, List.set_cons_succ])
            refine wl_nil ?_
            (try simp only [Exit.then, Exit.inBlock, ↓reduceIte, Nat.reduceEqDiff])
            have e7 : ofI 7 (L ++ [(7, s)]) = ofI 7 L ++ [s] := by rw [ofI_snoc, if_pos rfl]
            have h8 := bg_more (Nat.le_succ j) (((hM.up 1 rfl).up 1 rfl).up 2 rfl)
            have h9 : Ms w w41 [row 9 1 v42 ((ofI 7 (L ++ [(7, s)])).length) ((ofI 7 (L ++ [(7, s)])).map Value.string), bg p7 (64) (2) (j + 1) (L ++ [(7, s)])] := by rw [e7, List.map_append, List.length_append]; exact (h8.erase 2).up 1 rfl
            exact ⟨r - 1, by omega, j + 1, _, _, _, _, _, _, _, _, _, _, _, _, _, _, _, _, _, _, _, _, _, _, _, _, _, _, _, _, _, _, _, _, _, _, _, _, rfl, by omega, ⟨ap_add hI.out 7 (.inr rfl) s⟩, h9⟩
          · skip
            refine wp_seq_k (fun K43 hK43 => ?_)
            refine wl_region ?_
            refine wl_give rfl (g_move _ (.pointer (some ⟨p7, 0, none⟩)) rfl ?_)
            (try simp only [Act.put, List.setIfInBounds_toArray, List.set_cons_zero, List.set_cons_succ])
            refine wl_give rfl (g_move _ (.int .i64 (7)) rfl ?_)
            (try simp only [Act.put, List.setIfInBounds_toArray, List.set_cons_zero, List.set_cons_succ])
            refine wl_give rfl (g_move _ (.string (s)) rfl ?_)
            (try simp only [Act.put, List.setIfInBounds_toArray, List.set_cons_zero, List.set_cons_succ])
            refine wl_give rfl (g_call 14 _ _ [.pointer (some ⟨p7, 0, none⟩), .int .i64 (7), .string (s)] (kf14 _ _) rfl ((gput_n (show Ms w wr [bg p7 (64) (2) (j) (L), row 9 1 v ((ofI 7 L).length) ((ofI 7 L).map Value.string)] from (hM.up 1 rfl)) (by decide) (by decide) (by decide) (by omega) ⟨he⟩ he0).mono ?_))
            rintro e w44 ⟨rfl, h_⟩
            refine ⟨_, rfl, ?_⟩
            replace hM : Ms w w44 [bg p7 (64) (2) (j + 1) (L), row 9 1 v ((ofI 7 L).length) ((ofI 7 L).map Value.string)] := h_
            clear h_
            (try simp only [Act.put, List.setIfInBounds_toArray, List.set_cons_zero, List.set_cons_succ])
            refine wl_give rfl (g_ieq 25 _ _ .i64 (e) (0) false rfl rfl (decide_eq_false he0) ?_)
            (try simp only [Act.put, List.setIfInBounds_toArray, List.set_cons_zero, List.set_cons_succ])
            refine wl_give rfl (g_move _ (.bool false) rfl ?_)
            (try simp only [Act.put, List.setIfInBounds_toArray, List.set_cons_zero, List.set_cons_succ])
            refine wl_skip rfl ?_
            (try simp only [Act.put, List.setIfInBounds_toArray, List.set_cons_zero, List.set_cons_succ])
            refine wl_skip rfl ?_
            (try simp only [Act.put, List.setIfInBounds_toArray, List.set_cons_zero, List.set_cons_succ])
            refine wl_give rfl (g_pickf _ _ _ (.bool false) rfl rfl ?_)
            (try simp only [Act.put, List.setIfInBounds_toArray, List.set_cons_zero, List.set_cons_succ])
            refine wl_nil ?_
            refine hK43 _ _ ?_
            (try clear hK43 K43)
            refine wp_cond_false rfl ?_
            refine wp_skip ?_
            refine hK29 _ _ ?_
            (try clear hK29 K29)
            refine wl_region ?_
            refine wl_give rfl (g_ia 3 _ _ .i64 (((j : Nat) : Int)) (1) (((j + 1 : Nat) : Int)) rfl rfl (hj1.out) ?_)
            (try simp only [Act.put, List.setIfInBounds_toArray, List.set_cons_zero, List.set_cons_succ])
            refine wl_give rfl (g_move _ (.int .i64 (((j + 1 : Nat) : Int))) rfl ?_)
            (try simp only [Act.put, List.setIfInBounds_toArray, List.set_cons_zero, List.set_cons_succ])
            refine wl_nil ?_
            (try simp only [Exit.then, Exit.inBlock, ↓reduceIte, Nat.reduceEqDiff])
            exact ⟨r - 1, by omega, j + 1, _, _, _, _, _, _, _, _, _, _, _, _, _, _, _, _, _, _, _, _, _, _, _, _, _, _, _, _, _, _, _, _, _, _, _, _, rfl, by omega, ⟨ap_same hI.out⟩, ((hM.up 0 rfl).up 1 rfl)⟩
        | false =>
          refine wp_seq_k (fun K45 hK45 => ?_)
          refine wl_region ?_
          refine wl_give rfl (g_move _ (.int .i64 (((j : Nat) : Int))) rfl ?_)
          (try simp only [Act.put, List.setIfInBounds_toArray, List.set_cons_zero, List.set_cons_succ])
          refine wl_give rfl (g_move _ (.slice (some ⟨b2, o2, none⟩) (m) (cbp)) rfl ?_)
          (try simp only [Act.put, List.setIfInBounds_toArray, List.set_cons_zero, List.set_cons_succ])
          refine wl_give rfl (g_len _ 51 4 ((some ⟨b2, o2, none⟩)) (m) (cbp) (((m : Nat) : Int)) Try.underlying51 rfl rfl ?_)
          (try simp only [Act.put, List.setIfInBounds_toArray, List.set_cons_zero, List.set_cons_succ])
          refine wl_give rfl (g_ilss 3 _ _ .i64 (((j : Nat) : Int)) (((m : Nat) : Int)) true rfl rfl (decide_eq_true h2) ?_)
          (try simp only [Act.put, List.setIfInBounds_toArray, List.set_cons_zero, List.set_cons_succ])
          refine wl_give rfl (g_move _ (.bool true) rfl ?_)
          (try simp only [Act.put, List.setIfInBounds_toArray, List.set_cons_zero, List.set_cons_succ])
          refine wl_give rfl (g_move _ (.slice (some ⟨b2, o2, none⟩) (m) (cbp)) rfl ?_)
          (try simp only [Act.put, List.setIfInBounds_toArray, List.set_cons_zero, List.set_cons_succ])
          refine wl_give rfl (g_move _ (.int .i64 (((j : Nat) : Int))) rfl ?_)
          (try simp only [Act.put, List.setIfInBounds_toArray, List.set_cons_zero, List.set_cons_succ])
          refine wl_give rfl (g_ix _ _ 51 4 1 Try.underlying51 szof4 b2 o2 m cbp j (o2 + j * 1) _ rfl rfl rfl hjm rfl ?_)
          (try simp only [Act.put, List.setIfInBounds_toArray, List.set_cons_zero, List.set_cons_succ])
          refine wl_give rfl (g_ld1 4 _ (b2) (o2 + j * 1) _ rfl (ld4 _ _ _ _ (by rw [Nat.mul_one]; exact hcell2)) ?_)
          (try simp only [Act.put, List.setIfInBounds_toArray, List.set_cons_zero, List.set_cons_succ])
          refine wl_give rfl (g_pickt _ _ _ (.bool false) rfl rfl ?_)
          (try simp only [Act.put, List.setIfInBounds_toArray, List.set_cons_zero, List.set_cons_succ])
          refine wl_nil ?_
          refine hK45 _ _ ?_
          (try clear hK45 K45)
          refine wp_cond_false rfl ?_
          refine wp_skip ?_
          refine hK36 _ _ ?_
          (try clear hK36 K36)
          obtain ⟨e, he⟩ : ∃ e, bpE ((64 : Nat) : Int) 2 3 s L = e := ⟨_, rfl⟩
          by_cases he0 : e = 0
          · subst he0
            refine wp_seq_k (fun K46 hK46 => ?_)
            refine wl_region ?_
            refine wl_give rfl (g_move _ (.pointer (some ⟨p7, 0, none⟩)) rfl ?_)
            (try simp only [Act.put, List.setIfInBounds_toArray, List.set_cons_zero, List.set_cons_succ])
            refine wl_give rfl (g_move _ (.int .i64 (3)) rfl ?_)
            (try simp only [Act.put, List.setIfInBounds_toArray, List.set_cons_zero, List.set_cons_succ])
            refine wl_give rfl (g_move _ (.string (s)) rfl ?_)
            (try simp only [Act.put, List.setIfInBounds_toArray, List.set_cons_zero, List.set_cons_succ])
            refine wl_give rfl (g_call 14 _ _ [.pointer (some ⟨p7, 0, none⟩), .int .i64 (3), .string (s)] (kf14 _ _) rfl ((gput_0 (show Ms w wr [bg p7 (64) (2) (j) (L), row 9 1 v ((ofI 7 L).length) ((ofI 7 L).map Value.string)] from (hM.up 1 rfl)) (by decide) (by decide) (by decide) (by omega) ⟨he⟩).mono ?_))
            rintro e w47 ⟨rfl, h_⟩
            refine ⟨_, rfl, ?_⟩
            replace hM : Ms w w47 [bg p7 (64) (2) (j) (L ++ [(3, s)]), row 9 1 v ((ofI 7 L).length) ((ofI 7 L).map Value.string)] := h_
            clear h_
            (try simp only [Act.put, List.setIfInBounds_toArray, List.set_cons_zero, List.set_cons_succ])
            refine wl_give rfl (g_ieq 25 _ _ .i64 (0) (0) true rfl rfl (by decide) ?_)
            (try simp only [Act.put, List.setIfInBounds_toArray, List.set_cons_zero, List.set_cons_succ])
            refine wl_give rfl (g_move _ (.bool true) rfl ?_)
            (try simp only [Act.put, List.setIfInBounds_toArray, List.set_cons_zero, List.set_cons_succ])
            refine wl_give rfl (g_move _ (.int .i64 (3)) rfl ?_)
            (try simp only [Act.put, List.setIfInBounds_toArray, List.set_cons_zero, List.set_cons_succ])
            refine wl_give rfl (g_ieq 3 _ _ .i64 (3) (7) false rfl rfl (by decide) ?_)
            (try simp only [Act.put, List.setIfInBounds_toArray, List.set_cons_zero, List.set_cons_succ])
            refine wl_give rfl (g_pickt _ _ _ (.bool false) rfl rfl ?_)
            (try simp only [Act.put, List.setIfInBounds_toArray, List.set_cons_zero, List.set_cons_succ])
            refine wl_nil ?_
            refine hK46 _ _ ?_
            (try clear hK46 K46)
            refine wp_cond_false rfl ?_
            refine wp_skip ?_
            refine hK29 _ _ ?_
            (try clear hK29 K29)
            refine wl_region ?_
            refine wl_give rfl (g_ia 3 _ _ .i64 (((j : Nat) : Int)) (1) (((j + 1 : Nat) : Int)) rfl rfl (hj1.out) ?_)
            (try simp only [Act.put, List.setIfInBounds_toArray, List.set_cons_zero, List.set_cons_succ])
            refine wl_give rfl (g_move _ (.int .i64 (((j + 1 : Nat) : Int))) rfl ?_)
            (try simp only [Act.put, List.setIfInBounds_toArray, List.set_cons_zero, List.set_cons_succ])
            refine wl_nil ?_
            (try simp only [Exit.then, Exit.inBlock, ↓reduceIte, Nat.reduceEqDiff])
            have e7 : ofI 7 (L ++ [(3, s)]) = ofI 7 L := by rw [ofI_snoc, if_neg (show ¬ (3 : Int) = 7 by decide), List.append_nil]
            have h9 : Ms w w47 [bg p7 (64) (2) (j + 1) (L ++ [(3, s)]), row 9 1 v ((ofI 7 L).length) ((ofI 7 L).map Value.string)] := bg_more (Nat.le_succ j) ((hM.up 1 rfl).up 1 rfl)
            rw [← e7] at h9
            exact ⟨r - 1, by omega, j + 1, _, _, _, _, _, _, _, _, _, _, _, _, _, _, _, _, _, _, _, _, _, _, _, _, _, _, _, _, _, _, _, _, _, _, _, _, rfl, by omega, ⟨ap_add hI.out 3 (.inl rfl) s⟩, h9.up 1 rfl⟩
          · skip
            refine wp_seq_k (fun K48 hK48 => ?_)
            refine wl_region ?_
            refine wl_give rfl (g_move _ (.pointer (some ⟨p7, 0, none⟩)) rfl ?_)
            (try simp only [Act.put, List.setIfInBounds_toArray, List.set_cons_zero, List.set_cons_succ])
            refine wl_give rfl (g_move _ (.int .i64 (3)) rfl ?_)
            (try simp only [Act.put, List.setIfInBounds_toArray, List.set_cons_zero, List.set_cons_succ])
            refine wl_give rfl (g_move _ (.string (s)) rfl ?_)
            (try simp only [Act.put, List.setIfInBounds_toArray, List.set_cons_zero, List.set_cons_succ])
            refine wl_give rfl (g_call 14 _ _ [.pointer (some ⟨p7, 0, none⟩), .int .i64 (3), .string (s)] (kf14 _ _) rfl ((gput_n (show Ms w wr [bg p7 (64) (2) (j) (L), row 9 1 v ((ofI 7 L).length) ((ofI 7 L).map Value.string)] from (hM.up 1 rfl)) (by decide) (by decide) (by decide) (by omega) ⟨he⟩ he0).mono ?_))
            rintro e w49 ⟨rfl, h_⟩
            refine ⟨_, rfl, ?_⟩
            replace hM : Ms w w49 [bg p7 (64) (2) (j + 1) (L), row 9 1 v ((ofI 7 L).length) ((ofI 7 L).map Value.string)] := h_
            clear h_
            (try simp only [Act.put, List.setIfInBounds_toArray, List.set_cons_zero, List.set_cons_succ])
            refine wl_give rfl (g_ieq 25 _ _ .i64 (e) (0) false rfl rfl (decide_eq_false he0) ?_)
            (try simp only [Act.put, List.setIfInBounds_toArray, List.set_cons_zero, List.set_cons_succ])
            refine wl_give rfl (g_move _ (.bool false) rfl ?_)
            (try simp only [Act.put, List.setIfInBounds_toArray, List.set_cons_zero, List.set_cons_succ])
            refine wl_skip rfl ?_
            (try simp only [Act.put, List.setIfInBounds_toArray, List.set_cons_zero, List.set_cons_succ])
            refine wl_skip rfl ?_
            (try simp only [Act.put, List.setIfInBounds_toArray, List.set_cons_zero, List.set_cons_succ])
            refine wl_give rfl (g_pickf _ _ _ (.bool false) rfl rfl ?_)
            (try simp only [Act.put, List.setIfInBounds_toArray, List.set_cons_zero, List.set_cons_succ])
            refine wl_nil ?_
            refine hK48 _ _ ?_
            (try clear hK48 K48)
            refine wp_cond_false rfl ?_
            refine wp_skip ?_
            refine hK29 _ _ ?_
            (try clear hK29 K29)
            refine wl_region ?_
            refine wl_give rfl (g_ia 3 _ _ .i64 (((j : Nat) : Int)) (1) (((j + 1 : Nat) : Int)) rfl rfl (hj1.out) ?_)
            (try simp only [Act.put, List.setIfInBounds_toArray, List.set_cons_zero, List.set_cons_succ])
            refine wl_give rfl (g_move _ (.int .i64 (((j + 1 : Nat) : Int))) rfl ?_)
            (try simp only [Act.put, List.setIfInBounds_toArray, List.set_cons_zero, List.set_cons_succ])
            refine wl_nil ?_
            (try simp only [Exit.then, Exit.inBlock, ↓reduceIte, Nat.reduceEqDiff])
            exact ⟨r - 1, by omega, j + 1, _, _, _, _, _, _, _, _, _, _, _, _, _, _, _, _, _, _, _, _, _, _, _, _, _, _, _, _, _, _, _, _, _, _, _, _, rfl, by omega, ⟨ap_same hI.out⟩, ((hM.up 0 rfl).up 1 rfl)⟩
      · skip
        refine wp_seq_k (fun K50 hK50 => ?_)
        refine wl_region ?_
        refine wl_give rfl (g_move _ (.int .i64 (((j : Nat) : Int))) rfl ?_)
        (try simp only [Act.put, List.setIfInBounds_toArray, List.set_cons_zero, List.set_cons_succ])
        refine wl_give rfl (g_move _ (.slice bo (m) (cbp)) rfl ?_)
        (try simp only [Act.put, List.setIfInBounds_toArray, List.set_cons_zero, List.set_cons_succ])
        refine wl_give rfl (g_len _ 51 4 (bo) (m) (cbp) (((m : Nat) : Int)) Try.underlying51 rfl rfl ?_)
        (try simp only [Act.put, List.setIfInBounds_toArray, List.set_cons_zero, List.set_cons_succ])
        refine wl_give rfl (g_ilss 3 _ _ .i64 (((j : Nat) : Int)) (((m : Nat) : Int)) false rfl rfl (decide_eq_false h2) ?_)
        (try simp only [Act.put, List.setIfInBounds_toArray, List.set_cons_zero, List.set_cons_succ])
        refine wl_give rfl (g_move _ (.bool false) rfl ?_)
        (try simp only [Act.put, List.setIfInBounds_toArray, List.set_cons_zero, List.set_cons_succ])
        refine wl_skip rfl ?_
        (try simp only [Act.put, List.setIfInBounds_toArray, List.set_cons_zero, List.set_cons_succ])
        refine wl_skip rfl ?_
        (try simp only [Act.put, List.setIfInBounds_toArray, List.set_cons_zero, List.set_cons_succ])
        refine wl_skip rfl ?_
        (try simp only [Act.put, List.setIfInBounds_toArray, List.set_cons_zero, List.set_cons_succ])
        refine wl_skip rfl ?_
        (try simp only [Act.put, List.setIfInBounds_toArray, List.set_cons_zero, List.set_cons_succ])
        refine wl_give rfl (g_pickf _ _ _ (.bool false) rfl rfl ?_)
        (try simp only [Act.put, List.setIfInBounds_toArray, List.set_cons_zero, List.set_cons_succ])
        refine wl_nil ?_
        refine hK50 _ _ ?_
        (try clear hK50 K50)
        refine wp_cond_false rfl ?_
        refine wp_skip ?_
        refine hK36 _ _ ?_
        (try clear hK36 K36)
        obtain ⟨e, he⟩ : ∃ e, bpE ((64 : Nat) : Int) 2 3 s L = e := ⟨_, rfl⟩
        by_cases he0 : e = 0
        · subst he0
          refine wp_seq_k (fun K51 hK51 => ?_)
          refine wl_region ?_
          refine wl_give rfl (g_move _ (.pointer (some ⟨p7, 0, none⟩)) rfl ?_)
          (try simp only [Act.put, List.setIfInBounds_toArray, List.set_cons_zero, List.set_cons_succ])
          refine wl_give rfl (g_move _ (.int .i64 (3)) rfl ?_)
          (try simp only [Act.put, List.setIfInBounds_toArray, List.set_cons_zero, List.set_cons_succ])
          refine wl_give rfl (g_move _ (.string (s)) rfl ?_)
          (try simp only [Act.put, List.setIfInBounds_toArray, List.set_cons_zero, List.set_cons_succ])
          refine wl_give rfl (g_call 14 _ _ [.pointer (some ⟨p7, 0, none⟩), .int .i64 (3), .string (s)] (kf14 _ _) rfl ((gput_0 (show Ms w wr [bg p7 (64) (2) (j) (L), row 9 1 v ((ofI 7 L).length) ((ofI 7 L).map Value.string)] from (hM.up 1 rfl)) (by decide) (by decide) (by decide) (by omega) ⟨he⟩).mono ?_))
          rintro e w52 ⟨rfl, h_⟩
          refine ⟨_, rfl, ?_⟩
          replace hM : Ms w w52 [bg p7 (64) (2) (j) (L ++ [(3, s)]), row 9 1 v ((ofI 7 L).length) ((ofI 7 L).map Value.string)] := h_
          clear h_
          (try simp only [Act.put, List.setIfInBounds_toArray, List.set_cons_zero, List.set_cons_succ])
          refine wl_give rfl (g_ieq 25 _ _ .i64 (0) (0) true rfl rfl (by decide) ?_)
          (try simp only [Act.put, List.setIfInBounds_toArray, List.set_cons_zero, List.set_cons_succ])
          refine wl_give rfl (g_move _ (.bool true) rfl ?_)
          (try simp only [Act.put, List.setIfInBounds_toArray, List.set_cons_zero, List.set_cons_succ])
          refine wl_give rfl (g_move _ (.int .i64 (3)) rfl ?_)
          (try simp only [Act.put, List.setIfInBounds_toArray, List.set_cons_zero, List.set_cons_succ])
          refine wl_give rfl (g_ieq 3 _ _ .i64 (3) (7) false rfl rfl (by decide) ?_)
          (try simp only [Act.put, List.setIfInBounds_toArray, List.set_cons_zero, List.set_cons_succ])
          refine wl_give rfl (g_pickt _ _ _ (.bool false) rfl rfl ?_)
          (try simp only [Act.put, List.setIfInBounds_toArray, List.set_cons_zero, List.set_cons_succ])
          refine wl_nil ?_
          refine hK51 _ _ ?_
          (try clear hK51 K51)
          refine wp_cond_false rfl ?_
          refine wp_skip ?_
          refine hK29 _ _ ?_
          (try clear hK29 K29)
          refine wl_region ?_
          refine wl_give rfl (g_ia 3 _ _ .i64 (((j : Nat) : Int)) (1) (((j + 1 : Nat) : Int)) rfl rfl (hj1.out) ?_)
          (try simp only [Act.put, List.setIfInBounds_toArray, List.set_cons_zero, List.set_cons_succ])
          refine wl_give rfl (g_move _ (.int .i64 (((j + 1 : Nat) : Int))) rfl ?_)
          (try simp only [Act.put, List.setIfInBounds_toArray, List.set_cons_zero, List.set_cons_succ])
          refine wl_nil ?_
          (try simp only [Exit.then, Exit.inBlock, ↓reduceIte, Nat.reduceEqDiff])
          have e7 : ofI 7 (L ++ [(3, s)]) = ofI 7 L := by rw [ofI_snoc, if_neg (show ¬ (3 : Int) = 7 by decide), List.append_nil]
          have h9 : Ms w w52 [bg p7 (64) (2) (j + 1) (L ++ [(3, s)]), row 9 1 v ((ofI 7 L).length) ((ofI 7 L).map Value.string)] := bg_more (Nat.le_succ j) ((hM.up 1 rfl).up 1 rfl)
          rw [← e7] at h9
          exact ⟨r - 1, by omega, j + 1, _, _, _, _, _, _, _, _, _, _, _, _, _, _, _, _, _, _, _, _, _, _, _, _, _, _, _, _, _, _, _, _, _, _, _, _, rfl, by omega, ⟨ap_add hI.out 3 (.inl rfl) s⟩, h9.up 1 rfl⟩
        · skip
          refine wp_seq_k (fun K53 hK53 => ?_)
          refine wl_region ?_
          refine wl_give rfl (g_move _ (.pointer (some ⟨p7, 0, none⟩)) rfl ?_)
          (try simp only [Act.put, List.setIfInBounds_toArray, List.set_cons_zero, List.set_cons_succ])
          refine wl_give rfl (g_move _ (.int .i64 (3)) rfl ?_)
          (try simp only [Act.put, List.setIfInBounds_toArray, List.set_cons_zero, List.set_cons_succ])
          refine wl_give rfl (g_move _ (.string (s)) rfl ?_)
          (try simp only [Act.put, List.setIfInBounds_toArray, List.set_cons_zero, List.set_cons_succ])
          refine wl_give rfl (g_call 14 _ _ [.pointer (some ⟨p7, 0, none⟩), .int .i64 (3), .string (s)] (kf14 _ _) rfl ((gput_n (show Ms w wr [bg p7 (64) (2) (j) (L), row 9 1 v ((ofI 7 L).length) ((ofI 7 L).map Value.string)] from (hM.up 1 rfl)) (by decide) (by decide) (by decide) (by omega) ⟨he⟩ he0).mono ?_))
          rintro e w54 ⟨rfl, h_⟩
          refine ⟨_, rfl, ?_⟩
          replace hM : Ms w w54 [bg p7 (64) (2) (j + 1) (L), row 9 1 v ((ofI 7 L).length) ((ofI 7 L).map Value.string)] := h_
          clear h_
          (try simp only [Act.put, List.setIfInBounds_toArray, List.set_cons_zero, List.set_cons_succ])
          refine wl_give rfl (g_ieq 25 _ _ .i64 (e) (0) false rfl rfl (decide_eq_false he0) ?_)
          (try simp only [Act.put, List.setIfInBounds_toArray, List.set_cons_zero, List.set_cons_succ])
          refine wl_give rfl (g_move _ (.bool false) rfl ?_)
          (try simp only [Act.put, List.setIfInBounds_toArray, List.set_cons_zero, List.set_cons_succ])
          refine wl_skip rfl ?_
          (try simp only [Act.put, List.setIfInBounds_toArray, List.set_cons_zero, List.set_cons_succ])
          refine wl_skip rfl ?_
          (try simp only [Act.put, List.setIfInBounds_toArray, List.set_cons_zero, List.set_cons_succ])
          refine wl_give rfl (g_pickf _ _ _ (.bool false) rfl rfl ?_)
          (try simp only [Act.put, List.setIfInBounds_toArray, List.set_cons_zero, List.set_cons_succ])
          refine wl_nil ?_
          refine hK53 _ _ ?_
          (try clear hK53 K53)
          refine wp_cond_false rfl ?_
          refine wp_skip ?_
          refine hK29 _ _ ?_
          (try clear hK29 K29)
          refine wl_region ?_
          refine wl_give rfl (g_ia 3 _ _ .i64 (((j : Nat) : Int)) (1) (((j + 1 : Nat) : Int)) rfl rfl (hj1.out) ?_)
          (try simp only [Act.put, List.setIfInBounds_toArray, List.set_cons_zero, List.set_cons_succ])
          refine wl_give rfl (g_move _ (.int .i64 (((j + 1 : Nat) : Int))) rfl ?_)
          (try simp only [Act.put, List.setIfInBounds_toArray, List.set_cons_zero, List.set_cons_succ])
          refine wl_nil ?_
          (try simp only [Exit.then, Exit.inBlock, ↓reduceIte, Nat.reduceEqDiff])
          exact ⟨r - 1, by omega, j + 1, _, _, _, _, _, _, _, _, _, _, _, _, _, _, _, _, _, _, _, _, _, _, _, _, _, _, _, _, _, _, _, _, _, _, _, _, rfl, by omega, ⟨ap_same hI.out⟩, ((hM.up 0 rfl).up 1 rfl)⟩
  · skip
    refine wp_seq_k (fun K55 hK55 => ?_)
    refine wl_region ?_
    refine wl_give rfl (g_ilss 3 _ _ .i64 (((j : Nat) : Int)) (((n : Nat) : Int)) false rfl rfl (decide_eq_false h1) ?_)
    (try simp only [Act.put, List.setIfInBounds_toArray, List.set_cons_zero, List.set_cons_succ])
    refine wl_nil ?_
    refine hK55 _ _ ?_
    (try clear hK55 K55)
    refine wp_seq_k (fun K56 hK56 => ?_)
    refine wp_cond_false rfl ?_
    refine wp_exit ?_
    exact hcut j L _ _ _ _ _ _ _ _ _ _ _ _ _ _ _ _ _ _ _ _ _ _ _ _ _ _ _ _ _ _ _ _ _ _ _ _ _ _ _ hI (by omega) hM
theorem walk (ao : Option Addr) (n cap : Nat) (bo : Option Addr) (m cbp : Nat) (w : World) (hl : LV OkS w ao n) (h1 : n ≤ cap) (h2 : cap ≤ maxLen) (hw : LV OkB w bo m) (h3 : m ≤ cbp) (h4 : cbp ≤ maxLen) : Calls Try.prog 7 #[.slice ao n cap, .slice bo m cbp] w fun e w' => e = .returned (.bool true) ∧ Below w.heap.size w w' := by
  have hmx : maxLen ≤ 9223372036854775807 := by decide
  by_cases hn : (60 : Int) < ((n : Nat) : Int)
  · exact walk_many ao n cap bo m cbp w hl hw (by omega) hn
  · exact walk_few ao n cap bo m cbp w hl hw (by omega) hn
end Go.Proofs.Ytpkjocibgmjhdaa.bufferApart
