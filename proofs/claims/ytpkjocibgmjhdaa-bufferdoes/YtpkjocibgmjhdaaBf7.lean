/- What Drop answers: a loop over a map whose entries go on the way. -/
import Derived.Test.YtpkjocibgmjhdaaBf6
namespace Go.Proofs.Ytpkjocibgmjhdaa
set_option maxRecDepth 10000
open Go Go.RowKit
set_option linter.unusedVariables false
set_option linter.unusedSimpArgs false

set_option maxHeartbeats 4000000 in
theorem drop_bo {w0 w : World} {R : List HP} {p m x : Nat} {y d : Int} {L : List Thg} {E : List (Int × Nat)} {lo : Int} (hM : Ms w0 w (blk (p) ([.int .i64 (((x : Nat) : Int)), .int .i64 (y), .map (some m), .int .i64 (d)]) 60 :: mp kI m (E.map mv) :: (chs x L E ++ R))) (hB : Bu x E L) (hL : L.length ≤ 1000000) (hB2 : cntB lo (E.map mv) L ≤ L.length) : Calls Try.prog 19 #[.pointer (some ⟨p, 0, none⟩), .int .i64 lo] w fun e w' => e = .returned (.int .i64 ((cntB lo (E.map mv) L : Nat) : Int)) ∧ Ms w0 w' (blk (p) ([.int .i64 (((x : Nat) : Int)), .int .i64 (y), .map (some m), .int .i64 (d)]) 60 :: mp kI m ((E.map mv).filter (fun z => !decide (z.1 < lo))) :: (chs x L E ++ R)) := by
  have hkeys : ((E.map mv).map (·.1)).Nodup := by rw [List.map_map]; exact hB.keys
  go_enter Try.func19, Try.ntmps19
  refine wp_seq_k (fun K1 hK1 => ?_)
  refine wl_region ?_
  refine wl_give rfl (g_assign _ (.int .i64 (0)) rfl ?_)
  (try simp only [Act.put, List.setIfInBounds_toArray, List.set_cons_zero, List.set_cons_succ])
  refine wl_nil ?_
  refine hK1 _ _ ?_
  (try clear hK1 K1)
  refine wp_seq_k (fun K2 hK2 => ?_)
  refine wl_region ?_
  refine wl_give rfl (g_assign _ (.int .i64 (0)) rfl ?_)
  (try simp only [Act.put, List.setIfInBounds_toArray, List.set_cons_zero, List.set_cons_succ])
  refine wl_nil ?_
  refine hK2 _ _ ?_
  (try clear hK2 K2)
  refine wp_seq_k (fun K3 hK3 => ?_)
  refine wp_seq_k (fun K4 hK4 => ?_)
  refine wl_region ?_
  refine wl_give rfl (g_move _ (.pointer (some ⟨p, 0, none⟩)) rfl ?_)
  (try simp only [Act.put, List.setIfInBounds_toArray, List.set_cons_zero, List.set_cons_succ])
  refine wl_give rfl (g_nil _ ⟨p, 0, none⟩ rfl ?_)
  (try simp only [Act.put, List.setIfInBounds_toArray, List.set_cons_zero, List.set_cons_succ])
  refine wl_give rfl (g_fa 60 _ (p) (0) (2) 2 rfl (fa60_2 _ _ _) ?_)
  (try simp only [Act.put, List.setIfInBounds_toArray, List.set_cons_zero, List.set_cons_succ])
  refine wl_give rfl (g_ld1 58 _ (p) 2 _ rfl (ld58 _ _ _ _ ((hM.get 0 rfl).cell 2 _ rfl)) ?_)
  (try simp only [Act.put, List.setIfInBounds_toArray, List.set_cons_zero, List.set_cons_succ])
  refine wl_give rfl (g_range Try.underlying58 _ rfl (show Ms w0 w (mp kI m (E.map mv) :: blk (p) ([.int .i64 (((x : Nat) : Int)), .int .i64 (y), .map (some m), .int .i64 (d)]) 60 :: (chs x L E ++ R)) from (hM.up 1 rfl)) ?_)
  intro w5 h_
  replace hM : Ms w0 w5 (rg kI m (w.heap.size) (E.map mv) (E.map mv) (none) :: blk (p) ([.int .i64 (((x : Nat) : Int)), .int .i64 (y), .map (some m), .int .i64 (d)]) 60 :: (chs x L E ++ R)) := h_
  clear h_
  (try simp only [Act.put, List.setIfInBounds_toArray, List.set_cons_zero, List.set_cons_succ])
  refine wl_nil ?_
  refine hK4 _ _ ?_
  (try clear hK4 K4)
  refine wp_block ?_
  refine wp_rounds (fun n a wr => ∃ (n0 : Nat) (left : List (Int × Value)) (cur : Option (Int × Value)) (t6 t7 t13 t14 t15 t16 t17 t18 t19 t20 t21 t22 t23 t24 t25 t26 t27 t28 t29 : Value), a = ⟨#[.pointer (some ⟨p, 0, none⟩), .int .i64 (lo), undef, undef, .int .i64 (0), .int .i64 ((n0 : Nat) : Int), t6, t7, .pointer (some ⟨p, 0, none⟩), .pointer (some ⟨p, 0, none⟩), .pointer (some ⟨p, 2, none⟩), .map (some m), .pointer (some ⟨(w.heap.size), 0, none⟩), t13, t14, t15, t16, t17, t18, t19, t20, t21, t22, t23, t24, t25, t26, t27, t28, t29, undef], []⟩ ∧ left.length = n ∧ (∀ z ∈ left, z ∈ E.map mv) ∧ (left.map (·.1)).Nodup ∧ n0 + cntB lo left L = cntB lo (E.map mv) L ∧ Ms w0 wr (rg kI m (w.heap.size) (kept lo (E.map mv) (left)) (left) (cur) :: blk (p) ([.int .i64 (((x : Nat) : Int)), .int .i64 (y), .map (some m), .int .i64 (d)]) 60 :: (chs x L E ++ R))) _ ⟨0, _, _, _, _, _, _, _, _, _, _, _, _, _, _, _, _, _, _, _, _, _, rfl, rfl, fun _ h => h, hkeys, Nat.zero_add _, by rw [kept_all]; exact hM⟩ ?_
  clear hM
  rintro n a wr ⟨n0, left, cur, t6, t7, t13, t14, t15, t16, t17, t18, t19, t20, t21, t22, t23, t24, t25, t26, t27, t28, t29, rfl, hlen, hsub, hnd, hcnt, hM⟩
  by_cases hleft : left = []
  · subst hleft
    refine wp_seq_k (fun K6 hK6 => ?_)
    refine wl_region ?_
    refine wl_give rfl (g_next0 (enc := kI) _ rfl hM ?_)
    (try simp only [Act.put, List.setIfInBounds_toArray, List.set_cons_zero, List.set_cons_succ])
    refine wl_give rfl (g_extract _ #[.bool false] 0 (.bool false) rfl rfl ?_)
    (try simp only [Act.put, List.setIfInBounds_toArray, List.set_cons_zero, List.set_cons_succ])
    refine wl_nil ?_
    refine hK6 _ _ ?_
    (try clear hK6 K6)
    refine wp_seq_k (fun K7 hK7 => ?_)
    refine wp_cond_false rfl ?_
    refine wp_exit ?_
    refine hK3 _ _ ?_
    (try clear hK3 K3)
    refine wp_seq_k (fun K8 hK8 => ?_)
    refine wl_region ?_
    refine wl_give rfl (g_move _ (.int .i64 (((n0 : Nat) : Int))) rfl ?_)
    (try simp only [Act.put, List.setIfInBounds_toArray, List.set_cons_zero, List.set_cons_succ])
    refine wl_give rfl (g_assign _ (.int .i64 (((n0 : Nat) : Int))) rfl ?_)
    (try simp only [Act.put, List.setIfInBounds_toArray, List.set_cons_zero, List.set_cons_succ])
    refine wl_nil ?_
    refine hK8 _ _ ?_
    (try clear hK8 K8)
    refine wp_ret ?_
    have hn0 : n0 = cntB lo (E.map mv) L := by simpa [cntB, cnt] using hcnt
    subst hn0
    go_ret
    rw [kept_nil] at hM
    exact ⟨rfl, (rg_end ((hM.up 1 rfl).up 1 rfl)).up 1 rfl⟩
  · skip
    refine wp_seq_k (fun K9 hK9 => ?_)
    refine wl_region ?_
    refine wl_give rfl (g_next1 keyI _ rfl hM (hleft) ?_)
    intro y11 w10 hy h_
    replace hM : Ms w0 w10 (rg kI m (w.heap.size) (kept lo (E.map mv) (left)) (mdel (left) y11.1) (some y11) :: blk (p) ([.int .i64 (((x : Nat) : Int)), .int .i64 (y), .map (some m), .int .i64 (d)]) 60 :: (chs x L E ++ R)) := h_
    clear h_
    (try simp only [Act.put, List.setIfInBounds_toArray, List.set_cons_zero, List.set_cons_succ])
    obtain ⟨⟨j, c⟩, hE, rfl⟩ := List.mem_map.1 (hsub _ hy)
    replace hM : Ms w0 w10 (rg kI m (w.heap.size) (kept lo (E.map mv) (left)) (mdel left j) (some (mv (j, c))) :: blk (p) ([.int .i64 (((x : Nat) : Int)), .int .i64 (y), .map (some m), .int .i64 (d)]) 60 :: (chs x L E ++ R)) := hM
    have hjnd := hnd
    refine wl_give rfl (g_extract _ #[.bool true, .int .i64 (j), .chan (some c)] 0 (.bool true) rfl rfl ?_)
    (try simp only [Act.put, List.setIfInBounds_toArray, List.set_cons_zero, List.set_cons_succ])
    refine wl_nil ?_
    refine hK9 _ _ ?_
    (try clear hK9 K9)
    refine wp_seq_k (fun K12 hK12 => ?_)
    refine wp_cond_true rfl ?_
    refine wp_skip ?_
    refine hK12 _ _ ?_
    (try clear hK12 K12)
    refine wp_block ?_
    refine wp_seq_k (fun K13 hK13 => ?_)
    refine wl_region ?_
    refine wl_give rfl (g_entry _ ((mv (j, c))) rfl hM ?_)
    (try simp only [Act.put, List.setIfInBounds_toArray, List.set_cons_zero, List.set_cons_succ])
    refine wl_give rfl (g_extract _ #[.int .i64 (j), .chan (some c)] 0 (.int .i64 (j)) rfl rfl ?_)
    (try simp only [Act.put, List.setIfInBounds_toArray, List.set_cons_zero, List.set_cons_succ])
    refine wl_give rfl (g_extract _ #[.int .i64 (j), .chan (some c)] 1 (.chan (some c)) rfl rfl ?_)
    (try simp only [Act.put, List.setIfInBounds_toArray, List.set_cons_zero, List.set_cons_succ])
    refine wl_give rfl (g_assign _ (.int .i64 (j)) rfl ?_)
    (try simp only [Act.put, List.setIfInBounds_toArray, List.set_cons_zero, List.set_cons_succ])
    refine wl_give rfl (g_assign _ (.chan (some c)) rfl ?_)
    (try simp only [Act.put, List.setIfInBounds_toArray, List.set_cons_zero, List.set_cons_succ])
    refine wl_nil ?_
    refine hK13 _ _ ?_
    (try clear hK13 K13)
    by_cases hlt : j < lo
    · have hstep : cntB lo left L = (ofI j L).length + cntB lo (mdel left j) L := cntB_lt hnd hy hlt
      have hle : cntB lo (E.map mv) L ≤ L.length := hB2
      have hadd : Shut (IntKind.i64.wrap (((n0 : Nat) : Int) + (((ofI j L).length : Nat) : Int)) = ((n0 + (ofI j L).length : Nat) : Int)) := ⟨by rw [wrap_id _ (by omega) (by omega)]; omega⟩
      refine wp_seq_k (fun K14 hK14 => ?_)
      refine wl_region ?_
      refine wl_give rfl (g_move _ (.int .i64 (j)) rfl ?_)
      (try simp only [Act.put, List.setIfInBounds_toArray, List.set_cons_zero, List.set_cons_succ])
      refine wl_give rfl (g_move _ (.int .i64 (lo)) rfl ?_)
      (try simp only [Act.put, List.setIfInBounds_toArray, List.set_cons_zero, List.set_cons_succ])
      refine wl_give rfl (g_ilss 3 _ _ .i64 (j) (lo) true rfl rfl (decide_eq_true hlt) ?_)
      (try simp only [Act.put, List.setIfInBounds_toArray, List.set_cons_zero, List.set_cons_succ])
      refine wl_nil ?_
      refine hK14 _ _ ?_
      (try clear hK14 K14)
      refine wp_cond_true rfl ?_
      refine wp_seq_k (fun K15 hK15 => ?_)
      refine wl_region ?_
      refine wl_give rfl (g_move _ (.int .i64 (((n0 : Nat) : Int))) rfl ?_)
      (try simp only [Act.put, List.setIfInBounds_toArray, List.set_cons_zero, List.set_cons_succ])
      refine wl_give rfl (g_move _ (.chan (some c)) rfl ?_)
      (try simp only [Act.put, List.setIfInBounds_toArray, List.set_cons_zero, List.set_cons_succ])
      refine wl_give rfl (g_lenQ _ ((((ofI j L).length : Nat) : Int)) rfl (ch_mem hM (List.mem_cons_of_mem _ (List.mem_cons_of_mem _ (List.mem_append_left _ (chs_mem hE))))) (by simp) ?_)
      (try simp only [Act.put, List.setIfInBounds_toArray, List.set_cons_zero, List.set_cons_succ])
      refine wl_give rfl (g_ia 3 _ _ .i64 (((n0 : Nat) : Int)) ((((ofI j L).length : Nat) : Int)) (((n0 + (ofI j L).length : Nat) : Int)) rfl rfl ((hadd.out)) ?_)
      (try simp only [Act.put, List.setIfInBounds_toArray, List.set_cons_zero, List.set_cons_succ])
      refine wl_give rfl (g_assign _ (.int .i64 (((n0 + (ofI j L).length : Nat) : Int))) rfl ?_)
      (try simp only [Act.put, List.setIfInBounds_toArray, List.set_cons_zero, List.set_cons_succ])
      refine wl_nil ?_
      refine hK15 _ _ ?_
      (try clear hK15 K15)
      refine wl_region ?_
      refine wl_give rfl (g_move _ (.pointer (some ⟨p, 0, none⟩)) rfl ?_)
      (try simp only [Act.put, List.setIfInBounds_toArray, List.set_cons_zero, List.set_cons_succ])
      refine wl_give rfl (g_nil _ ⟨p, 0, none⟩ rfl ?_)
      (try simp only [Act.put, List.setIfInBounds_toArray, List.set_cons_zero, List.set_cons_succ])
      refine wl_give rfl (g_fa 60 _ (p) (0) (2) 2 rfl (fa60_2 _ _ _) ?_)
      (try simp only [Act.put, List.setIfInBounds_toArray, List.set_cons_zero, List.set_cons_succ])
      refine wl_give rfl (g_ld1 58 _ (p) 2 _ rfl (ld58 _ _ _ _ ((hM.get 1 rfl).cell 2 _ rfl)) ?_)
      (try simp only [Act.put, List.setIfInBounds_toArray, List.set_cons_zero, List.set_cons_succ])
      refine wl_give rfl (g_move _ (.int .i64 (j)) rfl ?_)
      (try simp only [Act.put, List.setIfInBounds_toArray, List.set_cons_zero, List.set_cons_succ])
      refine wl_give rfl (g_rdel keyI Try.underlying58 _ _ (j) rfl rfl hM ?_)
      intro w16 h_
      replace hM : Ms w0 w16 (rg kI m (w.heap.size) (mdel (kept lo (E.map mv) (left)) (j)) (mdel (mdel left j) (j)) (none) :: blk (p) ([.int .i64 (((x : Nat) : Int)), .int .i64 (y), .map (some m), .int .i64 (d)]) 60 :: (chs x L E ++ R)) := h_
      clear h_
      (try simp only [Act.put, List.setIfInBounds_toArray, List.set_cons_zero, List.set_cons_succ])
      refine wl_nil ?_
      (try simp only [Exit.then, Exit.inBlock, ↓reduceIte, Nat.reduceEqDiff])
      have h9 : Ms w0 w16 (rg kI m (w.heap.size) (mdel (kept lo (E.map mv) (left)) (j)) (mdel (mdel left j) (j)) (none) :: blk (p) ([.int .i64 (((x : Nat) : Int)), .int .i64 (y), .map (some m), .int .i64 (d)]) 60 :: (chs x L E ++ R)) := ((hM.up 1 rfl).up 1 rfl)
      rw [kept_lt hlt, mdel_twice] at h9
      exact ⟨_, hlen ▸ mdel_length hy, n0 + (ofI j L).length, _, _, _, _, _, _, _, _, _, _, _, _, _, _, _, _, _, _, _, _, _, rfl, rfl, fun z hz => hsub z (mdel_sub z hz), mdel_keys hnd, by rw [hstep] at hcnt; exact (Nat.add_assoc _ _ _).trans hcnt, h9⟩
    · have hstep := cntB_ge (L := L) hnd hy hlt
      refine wp_seq_k (fun K17 hK17 => ?_)
      refine wl_region ?_
      refine wl_give rfl (g_move _ (.int .i64 (j)) rfl ?_)
      (try simp only [Act.put, List.setIfInBounds_toArray, List.set_cons_zero, List.set_cons_succ])
      refine wl_give rfl (g_move _ (.int .i64 (lo)) rfl ?_)
      (try simp only [Act.put, List.setIfInBounds_toArray, List.set_cons_zero, List.set_cons_succ])
      refine wl_give rfl (g_ilss 3 _ _ .i64 (j) (lo) false rfl rfl (decide_eq_false hlt) ?_)
      (try simp only [Act.put, List.setIfInBounds_toArray, List.set_cons_zero, List.set_cons_succ])
      refine wl_nil ?_
      refine hK17 _ _ ?_
      (try clear hK17 K17)
      refine wp_cond_false rfl ?_
      refine wp_skip ?_
      (try simp only [Exit.then, Exit.inBlock, ↓reduceIte, Nat.reduceEqDiff])
      have h9 : Ms w0 w10 (rg kI m (w.heap.size) (kept lo (E.map mv) (left)) (mdel left j) (some (mv (j, c))) :: blk (p) ([.int .i64 (((x : Nat) : Int)), .int .i64 (y), .map (some m), .int .i64 (d)]) 60 :: (chs x L E ++ R)) := ((hM.up 1 rfl).up 1 rfl)
      rw [kept_ge hlt] at h9
      exact ⟨_, hlen ▸ mdel_length hy, n0, _, _, _, _, _, _, _, _, _, _, _, _, _, _, _, _, _, _, _, _, _, rfl, rfl, fun z hz => hsub z (mdel_sub z hz), mdel_keys hnd, by rw [hstep] at hcnt; exact hcnt, h9⟩
end Go.Proofs.Ytpkjocibgmjhdaa
