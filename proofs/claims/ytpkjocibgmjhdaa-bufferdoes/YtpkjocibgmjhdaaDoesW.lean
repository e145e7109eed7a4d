/- Whatever is put, taken and dropped, each answer, and what lies there, are as the reference's. -/
import Derived.Test.YtpkjocibgmjhdaaRf5
namespace Go.Proofs.Ytpkjocibgmjhdaa.bufferDoes
set_option maxRecDepth 10000
open Go Go.RowKit
set_option linter.unusedVariables false
set_option linter.unusedSimpArgs false

structure Do (L : List Thg) (d : Int) (j : Nat) : Prop where
  le : L.length ≤ j
  d0 : 0 ≤ d
  d1 : d ≤ ((j : Nat) : Int)
section
variable {x y d i : Int} {L : List Thg} {j : Nat} {s : ByteArray}
theorem do_nil : Do [] 0 0 := ⟨Nat.le_refl _, Int.le_refl _, Int.le_refl _⟩
theorem do_same (h : Do L d j) : Do L d (j + 1) := ⟨by have := h.le; omega, h.d0, by have := h.d1; omega⟩
theorem do_put (x y i : Int) (s : ByteArray) (h : Do L d j) : Do (bpL x y i s L) (bpD x y i s L d) (j + 1) := by
  have h1 := h.le
  have h2 := h.d0
  have h3 := h.d1
  refine ⟨?_, ?_, ?_⟩
  · unfold bpL; split
    · simp; omega
    · omega
  · unfold bpD; split <;> omega
  · unfold bpD; split <;> omega
theorem do_take (h : Do L d j) (i : Int) : Do (notI i L) d (j + 1) :=
  ⟨by have := h.le; have := notI_length i L; omega, h.d0, by have := h.d1; omega⟩
theorem do_drop (h : Do L d j) (i : Int) : Do (notB i L) d (j + 1) :=
  ⟨by have := h.le; have := bdN_len i L; omega, h.d0, by have := h.d1; omega⟩
end
set_option maxHeartbeats 4000000 in
theorem walk_bad (each slots : Int) (ao : Option Addr) (n cap : Nat) (w : World) (hbad : ¬ (1 ≤ each ∧ each ≤ 64 ∧ 1 ≤ slots ∧ slots ≤ 64)) : Calls Try.prog 3 #[.int .i64 each, .int .i64 slots, .slice ao n cap] w fun e w' => e = .returned (.bool true) ∧ Below w.heap.size w w' := by
  have hM := Ms.refl w
  go_enter Try.func3, Try.ntmps3
  refine wp_seq_k (fun K1 hK1 => ?_)
  refine wl_region ?_
  refine wl_give rfl (g_assign _ (.bool false) rfl ?_)
  (try simp only [Act.put, List.setIfInBounds_toArray, List.set_cons_zero, List.set_cons_succ])
  refine wl_nil ?_
  refine hK1 _ _ ?_
  (try clear hK1 K1)
  refine wp_seq_k (fun K2 hK2 => ?_)
  refine wp_seq_k (fun K3 hK3 => ?_)
  refine wl_region ?_
  refine wl_give rfl (g_call 10 _ _ [] (kf10 _ _) rfl ((awake_any w).mono ?_))
  rintro e w4 ⟨rfl, t_⟩
  refine ⟨_, rfl, ?_⟩
  replace hM := hM.call t_
  clear t_
  (try simp only [Act.put, List.setIfInBounds_toArray, List.set_cons_zero, List.set_cons_succ])
  refine wl_give rfl (g_unot 4 _ true rfl ?_)
  (try simp only [Act.put, List.setIfInBounds_toArray, List.set_cons_zero, List.set_cons_succ])
  refine wl_nil ?_
  refine hK3 _ _ ?_
  (try clear hK3 K3)
  refine wp_cond_false rfl ?_
  refine wp_skip ?_
  refine hK2 _ _ ?_
  (try clear hK2 K2)
  refine wp_seq_k (fun K5 hK5 => ?_)
  refine wl_region ?_
  refine wl_give rfl (g_move _ (.int .i64 (each)) rfl ?_)
  (try simp only [Act.put, List.setIfInBounds_toArray, List.set_cons_zero, List.set_cons_succ])
  refine wl_give rfl (g_move _ (.int .i64 (slots)) rfl ?_)
  (try simp only [Act.put, List.setIfInBounds_toArray, List.set_cons_zero, List.set_cons_succ])
  refine wl_give rfl (g_call 11 _ _ [.int .i64 (each), .int .i64 (slots)] (kf11 _ _) rfl ((new_bad each slots w4 hbad).mono ?_))
  rintro e w6 ⟨rfl, t_⟩
  refine ⟨_, rfl, ?_⟩
  replace hM := hM.call t_
  clear t_
  (try simp only [Act.put, List.setIfInBounds_toArray, List.set_cons_zero, List.set_cons_succ])
  refine wl_give rfl (g_move _ (.tuple #[.pointer none, .int .i64 (1)]) rfl ?_)
  (try simp only [Act.put, List.setIfInBounds_toArray, List.set_cons_zero, List.set_cons_succ])
  refine wl_give rfl (g_extract _ #[.pointer none, .int .i64 (1)] 0 (.pointer none) rfl rfl ?_)
  (try simp only [Act.put, List.setIfInBounds_toArray, List.set_cons_zero, List.set_cons_succ])
  refine wl_give rfl (g_extract _ #[.pointer none, .int .i64 (1)] 1 (.int .i64 (1)) rfl rfl ?_)
  (try simp only [Act.put, List.setIfInBounds_toArray, List.set_cons_zero, List.set_cons_succ])
  refine wl_give rfl (g_assign _ (.pointer none) rfl ?_)
  (try simp only [Act.put, List.setIfInBounds_toArray, List.set_cons_zero, List.set_cons_succ])
  refine wl_give rfl (g_assign _ (.int .i64 (1)) rfl ?_)
  (try simp only [Act.put, List.setIfInBounds_toArray, List.set_cons_zero, List.set_cons_succ])
  refine wl_nil ?_
  refine hK5 _ _ ?_
  (try clear hK5 K5)
  refine wp_seq_k (fun K7 hK7 => ?_)
  refine wl_region ?_
  refine wl_give rfl (g_move _ (.int .i64 (each)) rfl ?_)
  (try simp only [Act.put, List.setIfInBounds_toArray, List.set_cons_zero, List.set_cons_succ])
  refine wl_give rfl (g_move _ (.int .i64 (slots)) rfl ?_)
  (try simp only [Act.put, List.setIfInBounds_toArray, List.set_cons_zero, List.set_cons_succ])
  refine wl_give rfl (g_call 12 _ _ [.int .i64 (each), .int .i64 (slots)] (kf12 _ _) rfl ((rnew_bad each slots w6 hbad).mono ?_))
  rintro e w8 ⟨rfl, t_⟩
  refine ⟨_, rfl, ?_⟩
  replace hM := hM.call t_
  clear t_
  (try simp only [Act.put, List.setIfInBounds_toArray, List.set_cons_zero, List.set_cons_succ])
  refine wl_give rfl (g_move _ (.tuple #[.pointer none, .int .i64 (1)]) rfl ?_)
  (try simp only [Act.put, List.setIfInBounds_toArray, List.set_cons_zero, List.set_cons_succ])
  refine wl_give rfl (g_extract _ #[.pointer none, .int .i64 (1)] 0 (.pointer none) rfl rfl ?_)
  (try simp only [Act.put, List.setIfInBounds_toArray, List.set_cons_zero, List.set_cons_succ])
  refine wl_give rfl (g_extract _ #[.pointer none, .int .i64 (1)] 1 (.int .i64 (1)) rfl rfl ?_)
  (try simp only [Act.put, List.setIfInBounds_toArray, List.set_cons_zero, List.set_cons_succ])
  refine wl_give rfl (g_assign _ (.pointer none) rfl ?_)
  (try simp only [Act.put, List.setIfInBounds_toArray, List.set_cons_zero, List.set_cons_succ])
  refine wl_give rfl (g_assign _ (.int .i64 (1)) rfl ?_)
  (try simp only [Act.put, List.setIfInBounds_toArray, List.set_cons_zero, List.set_cons_succ])
  refine wl_nil ?_
  refine hK7 _ _ ?_
  (try clear hK7 K7)
  refine wp_seq_k (fun K9 hK9 => ?_)
  refine wp_seq_k (fun K10 hK10 => ?_)
  refine wl_region ?_
  refine wl_give rfl (g_move _ (.int .i64 (1)) rfl ?_)
  (try simp only [Act.put, List.setIfInBounds_toArray, List.set_cons_zero, List.set_cons_succ])
  refine wl_give rfl (g_move _ (.int .i64 (1)) rfl ?_)
  (try simp only [Act.put, List.setIfInBounds_toArray, List.set_cons_zero, List.set_cons_succ])
  refine wl_give rfl (g_ine 25 _ _ .i64 (1) (1) false rfl rfl (by decide) ?_)
  (try simp only [Act.put, List.setIfInBounds_toArray, List.set_cons_zero, List.set_cons_succ])
  refine wl_give rfl (g_move _ (.bool false) rfl ?_)
  (try simp only [Act.put, List.setIfInBounds_toArray, List.set_cons_zero, List.set_cons_succ])
  refine wl_give rfl (g_move _ (.pointer none) rfl ?_)
  (try simp only [Act.put, List.setIfInBounds_toArray, List.set_cons_zero, List.set_cons_succ])
  refine wl_give rfl (g_peq _ (none) true rfl rfl ?_)
  (try simp only [Act.put, List.setIfInBounds_toArray, List.set_cons_zero, List.set_cons_succ])
  refine wl_give rfl (g_move _ (.int .i64 (1)) rfl ?_)
  (try simp only [Act.put, List.setIfInBounds_toArray, List.set_cons_zero, List.set_cons_succ])
  refine wl_give rfl (g_ine 25 _ _ .i64 (1) (0) true rfl rfl (by decide) ?_)
  (try simp only [Act.put, List.setIfInBounds_toArray, List.set_cons_zero, List.set_cons_succ])
  refine wl_give rfl (g_bne _ _ true true false rfl rfl rfl ?_)
  (try simp only [Act.put, List.setIfInBounds_toArray, List.set_cons_zero, List.set_cons_succ])
  refine wl_give rfl (g_pickf _ _ _ (.bool false) rfl rfl ?_)
  (try simp only [Act.put, List.setIfInBounds_toArray, List.set_cons_zero, List.set_cons_succ])
  refine wl_nil ?_
  refine hK10 _ _ ?_
  (try clear hK10 K10)
  refine wp_cond_false rfl ?_
  refine wp_skip ?_
  refine hK9 _ _ ?_
  (try clear hK9 K9)
  refine wp_seq_k (fun K11 hK11 => ?_)
  refine wp_seq_k (fun K12 hK12 => ?_)
  refine wl_region ?_
  refine wl_give rfl (g_assign _ (.int .i64 (0)) rfl ?_)
  (try simp only [Act.put, List.setIfInBounds_toArray, List.set_cons_zero, List.set_cons_succ])
  refine wl_nil ?_
  refine hK12 _ _ ?_
  (try clear hK12 K12)
  refine wp_block ?_
  refine wp_rounds (fun m st wr => st = ⟨#[.int .i64 (each), .int .i64 (slots), .slice ao (n) (cap), undef, undef, undef, .bool false, .pointer none, .int .i64 (1), .pointer none, .int .i64 (1), .int .i64 (0), undef, undef, undef, undef, .bool true, .bool false, .tuple #[.pointer none, .int .i64 (1)], .int .i64 (each), .int .i64 (slots), .tuple #[.pointer none, .int .i64 (1)], .pointer none, .int .i64 (1), .tuple #[.pointer none, .int .i64 (1)], .int .i64 (each), .int .i64 (slots), .tuple #[.pointer none, .int .i64 (1)], .pointer none, .int .i64 (1), .int .i64 (1), .int .i64 (1), .bool false, .bool false, .pointer none, .bool true, .int .i64 (1), .bool true, .bool false, .bool false, undef, undef, undef, undef, undef, undef, undef, undef, undef, undef, undef, undef, undef, undef, undef, undef, undef, undef, undef, undef, undef, undef, undef, undef, undef, undef, undef, undef, undef, undef, undef, undef, undef, undef, undef, undef, undef, undef, undef, undef, undef, undef, undef, undef, undef, undef, undef, undef, undef, undef, undef, undef, undef, undef, undef, undef, undef, undef, undef, undef, undef, undef, undef, undef, undef, undef, undef, undef, undef, undef, undef, undef, undef, undef, undef, undef, undef, undef, undef, undef, undef, undef, undef, undef, undef, undef, undef, undef, undef, undef, undef, undef, undef, undef, undef, undef, undef, undef, undef, undef, undef, undef, undef, undef, undef, undef, undef, undef, undef, undef, undef, undef, undef, undef, undef, undef, undef, undef], []⟩ ∧ Ms w wr []) 0 ⟨rfl, hM⟩ ?_
  clear hM
  rintro m st wr ⟨rfl, hM⟩
  by_cases h1 : (0 : Int) < ((n : Nat) : Int)
  · skip
    refine wp_seq_k (fun K13 hK13 => ?_)
    refine wp_seq_k (fun K14 hK14 => ?_)
    refine wl_region ?_
    refine wl_give rfl (g_move _ (.int .i64 (0)) rfl ?_)
    (try simp only [Act.put, List.setIfInBounds_toArray, List.set_cons_zero, List.set_cons_succ])
    refine wl_give rfl (g_move _ (.slice ao (n) (cap)) rfl ?_)
    (try simp only [Act.put, List.setIfInBounds_toArray, List.set_cons_zero, List.set_cons_succ])
    refine wl_give rfl (g_len _ 22 32 (ao) (n) (cap) (((n : Nat) : Int)) Try.underlying22 rfl rfl ?_)
    (try simp only [Act.put, List.setIfInBounds_toArray, List.set_cons_zero, List.set_cons_succ])
    refine wl_give rfl (g_ilss 3 _ _ .i64 (0) (((n : Nat) : Int)) true rfl rfl (decide_eq_true h1) ?_)
    (try simp only [Act.put, List.setIfInBounds_toArray, List.set_cons_zero, List.set_cons_succ])
    refine wl_give rfl (g_move _ (.bool true) rfl ?_)
    (try simp only [Act.put, List.setIfInBounds_toArray, List.set_cons_zero, List.set_cons_succ])
    refine wl_give rfl (g_move _ (.int .i64 (0)) rfl ?_)
    (try simp only [Act.put, List.setIfInBounds_toArray, List.set_cons_zero, List.set_cons_succ])
    refine wl_give rfl (g_ilss 3 _ _ .i64 (0) (100) true rfl rfl (by decide) ?_)
    (try simp only [Act.put, List.setIfInBounds_toArray, List.set_cons_zero, List.set_cons_succ])
    refine wl_give rfl (g_pickt _ _ _ (.bool true) rfl rfl ?_)
    (try simp only [Act.put, List.setIfInBounds_toArray, List.set_cons_zero, List.set_cons_succ])
    refine wl_give rfl (g_move _ (.bool true) rfl ?_)
    (try simp only [Act.put, List.setIfInBounds_toArray, List.set_cons_zero, List.set_cons_succ])
    refine wl_give rfl (g_move _ (.pointer none) rfl ?_)
    (try simp only [Act.put, List.setIfInBounds_toArray, List.set_cons_zero, List.set_cons_succ])
    refine wl_give rfl (g_pne _ (none) false rfl rfl ?_)
    (try simp only [Act.put, List.setIfInBounds_toArray, List.set_cons_zero, List.set_cons_succ])
    refine wl_give rfl (g_pickt _ _ _ (.bool false) rfl rfl ?_)
    (try simp only [Act.put, List.setIfInBounds_toArray, List.set_cons_zero, List.set_cons_succ])
    refine wl_nil ?_
    refine hK14 _ _ ?_
    (try clear hK14 K14)
    refine wp_cond_false rfl ?_
    refine wp_exit ?_
    refine hK11 _ _ ?_
    (try clear hK11 K11)
    refine wp_seq_k (fun K15 hK15 => ?_)
    refine wl_region ?_
    refine wl_give rfl (g_assign _ (.bool true) rfl ?_)
    (try simp only [Act.put, List.setIfInBounds_toArray, List.set_cons_zero, List.set_cons_succ])
    refine wl_nil ?_
    refine hK15 _ _ ?_
    (try clear hK15 K15)
    refine wp_ret ?_
    go_ret
    exact ⟨rfl, hM.below⟩
  · skip
    refine wp_seq_k (fun K16 hK16 => ?_)
    refine wp_seq_k (fun K17 hK17 => ?_)
    refine wl_region ?_
    refine wl_give rfl (g_move _ (.int .i64 (0)) rfl ?_)
    (try simp only [Act.put, List.setIfInBounds_toArray, List.set_cons_zero, List.set_cons_succ])
    refine wl_give rfl (g_move _ (.slice ao (n) (cap)) rfl ?_)
    (try simp only [Act.put, List.setIfInBounds_toArray, List.set_cons_zero, List.set_cons_succ])
    refine wl_give rfl (g_len _ 22 32 (ao) (n) (cap) (((n : Nat) : Int)) Try.underlying22 rfl rfl ?_)
    (try simp only [Act.put, List.setIfInBounds_toArray, List.set_cons_zero, List.set_cons_succ])
    refine wl_give rfl (g_ilss 3 _ _ .i64 (0) (((n : Nat) : Int)) false rfl rfl (decide_eq_false h1) ?_)
    (try simp only [Act.put, List.setIfInBounds_toArray, List.set_cons_zero, List.set_cons_succ])
    refine wl_give rfl (g_move _ (.bool false) rfl ?_)
    (try simp only [Act.put, List.setIfInBounds_toArray, List.set_cons_zero, List.set_cons_succ])
    refine wl_skip rfl ?_
    (try simp only [Act.put, List.setIfInBounds_toArray, List.set_cons_zero, List.set_cons_succ])
    refine wl_skip rfl ?_
    (try simp only [Act.put, List.setIfInBounds_toArray, List.set_cons_zero, List.set_cons_succ])
    refine wl_give rfl (g_pickf _ _ _ (.bool false) rfl rfl ?_)
    (try simp only [Act.put, List.setIfInBounds_toArray, List.set_cons_zero, List.set_cons_succ])
    refine wl_give rfl (g_move _ (.bool false) rfl ?_)
    (try simp only [Act.put, List.setIfInBounds_toArray, List.set_cons_zero, List.set_cons_succ])
    refine wl_skip rfl ?_
    (try simp only [Act.put, List.setIfInBounds_toArray, List.set_cons_zero, List.set_cons_succ])
    refine wl_skip rfl ?_
    (try simp only [Act.put, List.setIfInBounds_toArray, List.set_cons_zero, List.set_cons_succ])
    refine wl_give rfl (g_pickf _ _ _ (.bool false) rfl rfl ?_)
    (try simp only [Act.put, List.setIfInBounds_toArray, List.set_cons_zero, List.set_cons_succ])
    refine wl_nil ?_
    refine hK17 _ _ ?_
    (try clear hK17 K17)
    refine wp_cond_false rfl ?_
    refine wp_exit ?_
    refine hK11 _ _ ?_
    (try clear hK11 K11)
    refine wp_seq_k (fun K18 hK18 => ?_)
    refine wl_region ?_
    refine wl_give rfl (g_assign _ (.bool true) rfl ?_)
    (try simp only [Act.put, List.setIfInBounds_toArray, List.set_cons_zero, List.set_cons_succ])
    refine wl_nil ?_
    refine hK18 _ _ ?_
    (try clear hK18 K18)
    refine wp_ret ?_
    go_ret
    exact ⟨rfl, hM.below⟩
set_option maxHeartbeats 4000000 in
theorem walk_on (x : Nat) (slots : Int) (ao : Option Addr) (n cap : Nat) (w : World) (hl : LA w ao n) (hn : n ≤ 9223372036854775807) (hx1 : 1 ≤ x) (hx2 : x ≤ 64) (hy1 : 1 ≤ slots) (hy2 : slots ≤ 64) : Calls Try.prog 3 #[.int .i64 ((x : Nat) : Int), .int .i64 slots, .slice ao n cap] w fun e w' => e = .returned (.bool true) ∧ Below w.heap.size w w' := by
  have hM := Ms.refl w
  go_enter Try.func3, Try.ntmps3
  refine wp_seq_k (fun K1 hK1 => ?_)
  refine wl_region ?_
  refine wl_give rfl (g_assign _ (.bool false) rfl ?_)
  (try simp only [Act.put, List.setIfInBounds_toArray, List.set_cons_zero, List.set_cons_succ])
  refine wl_nil ?_
  refine hK1 _ _ ?_
  (try clear hK1 K1)
  refine wp_seq_k (fun K2 hK2 => ?_)
  refine wp_seq_k (fun K3 hK3 => ?_)
  refine wl_region ?_
  refine wl_give rfl (g_call 10 _ _ [] (kf10 _ _) rfl ((awake_any w).mono ?_))
  rintro e w4 ⟨rfl, t_⟩
  refine ⟨_, rfl, ?_⟩
  replace hM := hM.call t_
  clear t_
  (try simp only [Act.put, List.setIfInBounds_toArray, List.set_cons_zero, List.set_cons_succ])
  refine wl_give rfl (g_unot 4 _ true rfl ?_)
  (try simp only [Act.put, List.setIfInBounds_toArray, List.set_cons_zero, List.set_cons_succ])
  refine wl_nil ?_
  refine hK3 _ _ ?_
  (try clear hK3 K3)
  refine wp_cond_false rfl ?_
  refine wp_skip ?_
  refine hK2 _ _ ?_
  (try clear hK2 K2)
  refine wp_seq_k (fun K5 hK5 => ?_)
  refine wl_region ?_
  refine wl_give rfl (g_move _ (.int .i64 (((x : Nat) : Int))) rfl ?_)
  (try simp only [Act.put, List.setIfInBounds_toArray, List.set_cons_zero, List.set_cons_succ])
  refine wl_give rfl (g_move _ (.int .i64 (slots)) rfl ?_)
  (try simp only [Act.put, List.setIfInBounds_toArray, List.set_cons_zero, List.set_cons_succ])
  refine wl_give rfl (g_call 11 _ _ [.int .i64 (((x : Nat) : Int)), .int .i64 (slots)] (kf11 _ _) rfl ((new_any (x) (slots) hM hx1 hx2 hy1 hy2).mono ?_))
  rintro e w6 ⟨p7, rfl, h_⟩
  refine ⟨_, rfl, ?_⟩
  replace hM : Ms w w6 [bf p7 (x) (slots) (0) ([])] := h_
  clear h_
  (try simp only [Act.put, List.setIfInBounds_toArray, List.set_cons_zero, List.set_cons_succ])
  refine wl_give rfl (g_move _ (.tuple #[.pointer (some ⟨p7, 0, none⟩), .int .i64 (0)]) rfl ?_)
  (try simp only [Act.put, List.setIfInBounds_toArray, List.set_cons_zero, List.set_cons_succ])
  refine wl_give rfl (g_extract _ #[.pointer (some ⟨p7, 0, none⟩), .int .i64 (0)] 0 (.pointer (some ⟨p7, 0, none⟩)) rfl rfl ?_)
  (try simp only [Act.put, List.setIfInBounds_toArray, List.set_cons_zero, List.set_cons_succ])
  refine wl_give rfl (g_extract _ #[.pointer (some ⟨p7, 0, none⟩), .int .i64 (0)] 1 (.int .i64 (0)) rfl rfl ?_)
  (try simp only [Act.put, List.setIfInBounds_toArray, List.set_cons_zero, List.set_cons_succ])
  refine wl_give rfl (g_assign _ (.pointer (some ⟨p7, 0, none⟩)) rfl ?_)
  (try simp only [Act.put, List.setIfInBounds_toArray, List.set_cons_zero, List.set_cons_succ])
  refine wl_give rfl (g_assign _ (.int .i64 (0)) rfl ?_)
  (try simp only [Act.put, List.setIfInBounds_toArray, List.set_cons_zero, List.set_cons_succ])
  refine wl_nil ?_
  refine hK5 _ _ ?_
  (try clear hK5 K5)
  refine wp_seq_k (fun K8 hK8 => ?_)
  refine wl_region ?_
  refine wl_give rfl (g_move _ (.int .i64 (((x : Nat) : Int))) rfl ?_)
  (try simp only [Act.put, List.setIfInBounds_toArray, List.set_cons_zero, List.set_cons_succ])
  refine wl_give rfl (g_move _ (.int .i64 (slots)) rfl ?_)
  (try simp only [Act.put, List.setIfInBounds_toArray, List.set_cons_zero, List.set_cons_succ])
  refine wl_give rfl (g_call 12 _ _ [.int .i64 (((x : Nat) : Int)), .int .i64 (slots)] (kf12 _ _) rfl ((rnew_any (x) (slots) hM hx1 hx2 hy1 hy2).mono ?_))
  rintro e w9 ⟨p10, rfl, h_⟩
  refine ⟨_, rfl, ?_⟩
  replace hM : Ms w w9 [rb p10 ((x : Nat) : Int) slots (0) ([]), bf p7 (x) (slots) (0) ([])] := h_
  clear h_
  (try simp only [Act.put, List.setIfInBounds_toArray, List.set_cons_zero, List.set_cons_succ])
  refine wl_give rfl (g_move _ (.tuple #[.pointer (some ⟨p10, 0, none⟩), .int .i64 (0)]) rfl ?_)
  (try simp only [Act.put, List.setIfInBounds_toArray, List.set_cons_zero, List.set_cons_succ])
  refine wl_give rfl (g_extract _ #[.pointer (some ⟨p10, 0, none⟩), .int .i64 (0)] 0 (.pointer (some ⟨p10, 0, none⟩)) rfl rfl ?_)
  (try simp only [Act.put, List.setIfInBounds_toArray, List.set_cons_zero, List.set_cons_succ])
  refine wl_give rfl (g_extract _ #[.pointer (some ⟨p10, 0, none⟩), .int .i64 (0)] 1 (.int .i64 (0)) rfl rfl ?_)
  (try simp only [Act.put, List.setIfInBounds_toArray, List.set_cons_zero, List.set_cons_succ])
  refine wl_give rfl (g_assign _ (.pointer (some ⟨p10, 0, none⟩)) rfl ?_)
  (try simp only [Act.put, List.setIfInBounds_toArray, List.set_cons_zero, List.set_cons_succ])
  refine wl_give rfl (g_assign _ (.int .i64 (0)) rfl ?_)
  (try simp only [Act.put, List.setIfInBounds_toArray, List.set_cons_zero, List.set_cons_succ])
  refine wl_nil ?_
  refine hK8 _ _ ?_
  (try clear hK8 K8)
  refine wp_seq_k (fun K11 hK11 => ?_)
  refine wp_seq_k (fun K12 hK12 => ?_)
  refine wl_region ?_
  refine wl_give rfl (g_move _ (.int .i64 (0)) rfl ?_)
  (try simp only [Act.put, List.setIfInBounds_toArray, List.set_cons_zero, List.set_cons_succ])
  refine wl_give rfl (g_move _ (.int .i64 (0)) rfl ?_)
  (try simp only [Act.put, List.setIfInBounds_toArray, List.set_cons_zero, List.set_cons_succ])
  refine wl_give rfl (g_ine 25 _ _ .i64 (0) (0) false rfl rfl (by decide) ?_)
  (try simp only [Act.put, List.setIfInBounds_toArray, List.set_cons_zero, List.set_cons_succ])
  refine wl_give rfl (g_move _ (.bool false) rfl ?_)
  (try simp only [Act.put, List.setIfInBounds_toArray, List.set_cons_zero, List.set_cons_succ])
  refine wl_give rfl (g_move _ (.pointer (some ⟨p7, 0, none⟩)) rfl ?_)
  (try simp only [Act.put, List.setIfInBounds_toArray, List.set_cons_zero, List.set_cons_succ])
  refine wl_give rfl (g_peq _ ((some ⟨p7, 0, none⟩)) false rfl rfl ?_)
  (try simp only [Act.put, List.setIfInBounds_toArray, List.set_cons_zero, List.set_cons_succ])
  refine wl_give rfl (g_move _ (.int .i64 (0)) rfl ?_)
  (try simp only [Act.put, List.setIfInBounds_toArray, List.set_cons_zero, List.set_cons_succ])
  refine wl_give rfl (g_ine 25 _ _ .i64 (0) (0) false rfl rfl (by decide) ?_)
  (try simp only [Act.put, List.setIfInBounds_toArray, List.set_cons_zero, List.set_cons_succ])
  refine wl_give rfl (g_bne _ _ false false false rfl rfl rfl ?_)
  (try simp only [Act.put, List.setIfInBounds_toArray, List.set_cons_zero, List.set_cons_succ])
  refine wl_give rfl (g_pickf _ _ _ (.bool false) rfl rfl ?_)
  (try simp only [Act.put, List.setIfInBounds_toArray, List.set_cons_zero, List.set_cons_succ])
  refine wl_nil ?_
  refine hK12 _ _ ?_
  (try clear hK12 K12)
  refine wp_cond_false rfl ?_
  refine wp_skip ?_
  refine hK11 _ _ ?_
  (try clear hK11 K11)
  refine wp_seq_k (fun K13 hK13 => ?_)
  refine wp_seq_k (fun K14 hK14 => ?_)
  refine wl_region ?_
  refine wl_give rfl (g_assign _ (.int .i64 (0)) rfl ?_)
  (try simp only [Act.put, List.setIfInBounds_toArray, List.set_cons_zero, List.set_cons_succ])
  refine wl_nil ?_
  refine hK14 _ _ ?_
  (try clear hK14 K14)
  refine wp_block ?_
  have h9 := ((hM.up 0 rfl).up 1 rfl)
  refine wp_rounds (fun m st wr => ∃ (j : Nat) (d : Int) (L : List Thg) (t : Nat → Value), st = ⟨#[.int .i64 (((x : Nat) : Int)), .int .i64 (slots), .slice ao (n) (cap), undef, undef, undef, .bool false, .pointer (some ⟨p7, 0, none⟩), .int .i64 (0), .pointer (some ⟨p10, 0, none⟩), .int .i64 (0), .int .i64 ((j : Nat) : Int), t 12, t 13, t 14, t 15, t 16, t 17, t 18, t 19, t 20, t 21, t 22, t 23, t 24, t 25, t 26, t 27, t 28, t 29, t 30, t 31, t 32, t 33, t 34, t 35, t 36, t 37, t 38, t 39, t 40, t 41, t 42, t 43, t 44, t 45, t 46, t 47, t 48, t 49, t 50, t 51, t 52, t 53, t 54, t 55, t 56, t 57, t 58, t 59, t 60, t 61, t 62, t 63, t 64, t 65, t 66, t 67, t 68, t 69, t 70, t 71, t 72, t 73, t 74, t 75, t 76, t 77, t 78, t 79, t 80, t 81, t 82, t 83, t 84, t 85, t 86, t 87, t 88, t 89, t 90, t 91, t 92, t 93, t 94, t 95, t 96, t 97, t 98, t 99, t 100, t 101, t 102, t 103, t 104, t 105, t 106, t 107, t 108, t 109, t 110, t 111, t 112, t 113, t 114, t 115, t 116, t 117, t 118, t 119, t 120, t 121, t 122, t 123, t 124, t 125, t 126, t 127, t 128, t 129, t 130, t 131, t 132, t 133, t 134, t 135, t 136, t 137, t 138, t 139, t 140, t 141, t 142, t 143, t 144, t 145, t 146, t 147, t 148, t 149, t 150, t 151, t 152, t 153, t 154, t 155, t 156, t 157], []⟩ ∧ j + m = 100 ∧ Shut (Do L d j) ∧ Ms w wr [bf p7 (x) (slots) (d) (L), rb p10 ((x : Nat) : Int) slots (d) (L)]) 100 ⟨0, 0, [], (tl [.int .i64 (((x : Nat) : Int)), .int .i64 (slots), .slice ao (n) (cap), undef, undef, undef, .bool false, .pointer (some ⟨p7, 0, none⟩), .int .i64 (0), .pointer (some ⟨p10, 0, none⟩), .int .i64 (0), .int .i64 (0), undef, undef, undef, undef, .bool true, .bool false, .tuple #[.pointer (some ⟨p7, 0, none⟩), .int .i64 (0)], .int .i64 (((x : Nat) : Int)), .int .i64 (slots), .tuple #[.pointer (some ⟨p7, 0, none⟩), .int .i64 (0)], .pointer (some ⟨p7, 0, none⟩), .int .i64 (0), .tuple #[.pointer (some ⟨p10, 0, none⟩), .int .i64 (0)], .int .i64 (((x : Nat) : Int)), .int .i64 (slots), .tuple #[.pointer (some ⟨p10, 0, none⟩), .int .i64 (0)], .pointer (some ⟨p10, 0, none⟩), .int .i64 (0), .int .i64 (0), .int .i64 (0), .bool false, .bool false, .pointer (some ⟨p7, 0, none⟩), .bool false, .int .i64 (0), .bool false, .bool false, .bool false, undef, undef, undef, undef, undef, undef, undef, undef, undef, undef, undef, undef, undef, undef, undef, undef, undef, undef, undef, undef, undef, undef, undef, undef, undef, undef, undef, undef, undef, undef, undef, undef, undef, undef, undef, undef, undef, undef, undef, undef, undef, undef, undef, undef, undef, undef, undef, undef, undef, undef, undef, undef, undef, undef, undef, undef, undef, undef, undef, undef, undef, undef, undef, undef, undef, undef, undef, undef, undef, undef, undef, undef, undef, undef, undef, undef, undef, undef, undef, undef, undef, undef, undef, undef, undef, undef, undef, undef, undef, undef, undef, undef, undef, undef, undef, undef, undef, undef, undef, undef, undef, undef, undef, undef, undef, undef, undef, undef, undef, undef, undef, undef, undef, undef, undef, undef, undef, undef]), rfl, Nat.zero_add _, ⟨do_nil⟩, h9⟩ ?_
  clear hM h9
  rintro m st wr ⟨j, d, L, t, rfl, hj, hI, hM⟩
  by_cases h1 : ((j : Nat) : Int) < ((n : Nat) : Int)
  · by_cases h2 : ((j : Nat) : Int) < 100
    · skip
      obtain ⟨b, o, k, i, s, rfl, hc0, hc1, hc2, hik⟩ := hl.on hM j (by omega)
      have hjn : j < n := by omega
      have hj1 : Shut (IntKind.i64.wrap (((j : Nat) : Int) + 1) = ((j + 1 : Nat) : Int)) := ⟨by rw [wrap_id _ (by omega) (by omega)]; omega⟩
      have hle := hI.out.le
      have hd0 := hI.out.d0
      have hd1 := hI.out.d1
      have hlow := blow hM
      have hlow1 : ∀ t ∈ L, 1 ≤ t.1 := fun t ht => (hlow t ht).1
      refine wp_seq_k (fun K15 hK15 => ?_)
      refine wp_seq_k (fun K16 hK16 => ?_)
      refine wl_region ?_
      refine wl_give rfl (g_move _ (.int .i64 (((j : Nat) : Int))) rfl ?_)
      (try simp only [Act.put, List.setIfInBounds_toArray, List.set_cons_zero, List.set_cons_succ])
      refine wl_give rfl (g_move _ (.slice (some ⟨b, o, none⟩) (n) (cap)) rfl ?_)
      (try simp only [Act.put, List.setIfInBounds_toArray, List.set_cons_zero, List.set_cons_succ])
      refine wl_give rfl (g_len _ 22 32 ((some ⟨b, o, none⟩)) (n) (cap) (((n : Nat) : Int)) Try.underlying22 rfl rfl ?_)
      (try simp only [Act.put, List.setIfInBounds_toArray, List.set_cons_zero, List.set_cons_succ])
      refine wl_give rfl (g_ilss 3 _ _ .i64 (((j : Nat) : Int)) (((n : Nat) : Int)) true rfl rfl (decide_eq_true h1) ?_)
      (try simp only [Act.put, List.setIfInBounds_toArray, List.set_cons_zero, List.set_cons_succ])
      refine wl_give rfl (g_move _ (.bool true) rfl ?_)
      (try simp only [Act.put, List.setIfInBounds_toArray, List.set_cons_zero, List.set_cons_succ])
      refine wl_give rfl (g_move _ (.int .i64 (((j : Nat) : Int))) rfl ?_)
      (try simp only [Act.put, List.setIfInBounds_toArray, List.set_cons_zero, List.set_cons_succ])
      refine wl_give rfl (g_ilss 3 _ _ .i64 (((j : Nat) : Int)) (100) true rfl rfl (decide_eq_true h2) ?_)
      (try simp only [Act.put, List.setIfInBounds_toArray, List.set_cons_zero, List.set_cons_succ])
      refine wl_give rfl (g_pickt _ _ _ (.bool true) rfl rfl ?_)
      (try simp only [Act.put, List.setIfInBounds_toArray, List.set_cons_zero, List.set_cons_succ])
      refine wl_give rfl (g_move _ (.bool true) rfl ?_)
      (try simp only [Act.put, List.setIfInBounds_toArray, List.set_cons_zero, List.set_cons_succ])
      refine wl_give rfl (g_move _ (.pointer (some ⟨p10, 0, none⟩)) rfl ?_)
      (try simp only [Act.put, List.setIfInBounds_toArray, List.set_cons_zero, List.set_cons_succ])
      refine wl_give rfl (g_pne _ ((some ⟨p10, 0, none⟩)) true rfl rfl ?_)
      (try simp only [Act.put, List.setIfInBounds_toArray, List.set_cons_zero, List.set_cons_succ])
      refine wl_give rfl (g_pickt _ _ _ (.bool true) rfl rfl ?_)
      (try simp only [Act.put, List.setIfInBounds_toArray, List.set_cons_zero, List.set_cons_succ])
      refine wl_nil ?_
      refine hK16 _ _ ?_
      (try clear hK16 K16)
      refine wp_cond_true rfl ?_
      refine wp_skip ?_
      refine hK15 _ _ ?_
      (try clear hK15 K15)
      refine wp_seq_k (fun K17 hK17 => ?_)
      refine wp_block ?_
      refine wp_seq_k (fun K18 hK18 => ?_)
      refine wl_region ?_
      refine wl_give rfl (g_move _ (.slice (some ⟨b, o, none⟩) (n) (cap)) rfl ?_)
      (try simp only [Act.put, List.setIfInBounds_toArray, List.set_cons_zero, List.set_cons_succ])
      refine wl_give rfl (g_move _ (.int .i64 (((j : Nat) : Int))) rfl ?_)
      (try simp only [Act.put, List.setIfInBounds_toArray, List.set_cons_zero, List.set_cons_succ])
      refine wl_give rfl (g_ix _ _ 22 32 3 Try.underlying22 szof32 b o n cap j (o + j * 3) _ rfl rfl rfl hjn rfl ?_)
      (try simp only [Act.put, List.setIfInBounds_toArray, List.set_cons_zero, List.set_cons_succ])
      refine wl_give rfl (g_ldAct _ (b) (o + j * 3) k i s rfl hc0 hc1 hc2 ?_)
      (try simp only [Act.put, List.setIfInBounds_toArray, List.set_cons_zero, List.set_cons_succ])
      refine wl_give rfl (g_alloc 32 (([.int .i64 (0), .int .i64 (0), .string (⟨#[]⟩)] : List Value)) zeroA ?_)
      intro w19 t_ b_
      replace hM : Ms w w19 [blk (wr.heap.size) (([.int .i64 (0), .int .i64 (0), .string (⟨#[]⟩)] : List Value)) 32, bf p7 (x) (slots) (d) (L), rb p10 ((x : Nat) : Int) slots (d) (L)] := hM.new t_ b_
      clear t_ b_
      (try simp only [Act.put, List.setIfInBounds_toArray, List.set_cons_zero, List.set_cons_succ])
      refine wl_give rfl (g_store_all 32 _ _ (wr.heap.size) (([.int .i64 (k), .int .i64 (i), .string (s)] : List Value)) _ 32 rfl rfl (hM.get 0 rfl) (size32) (rfl) ((by simp [Value.oneCell'])) ?_)
      intro w20 t_ b_
      replace hM : Ms w w20 [blk (wr.heap.size) (([.int .i64 (k), .int .i64 (i), .string (s)] : List Value)) 32, bf p7 (x) (slots) (d) (L), rb p10 ((x : Nat) : Int) slots (d) (L)] := hM.put 0 rfl t_ b_
      clear t_ b_
      (try simp only [Act.put, List.setIfInBounds_toArray, List.set_cons_zero, List.set_cons_succ])
      refine wl_nil ?_
      refine hK18 _ _ ?_
      (try clear hK18 K18)
      refine wp_seq_k (fun K21 hK21 => ?_)
      by_cases hs : (200 : Int) < ((s.size : Nat) : Int)
      · skip
        refine wp_seq_k (fun K22 hK22 => ?_)
        refine wl_region ?_
        refine wl_give rfl (g_load_all 32 _ (wr.heap.size) (([.int .i64 (k), .int .i64 (i), .string (s)] : List Value)) 32 _ rfl (hM.get 0 rfl) Try.underlying32 rfl (size32) ?_)
        (try simp only [Act.put, List.setIfInBounds_toArray, List.set_cons_zero, List.set_cons_succ])
        refine wl_give rfl (g_call 13 _ _ [.agg (([.int .i64 (k), .int .i64 (i), .string (s)] : List Value)).toArray] (kf13 _ _) rfl ((large_t k i s w20 hs).mono ?_))
        rintro e w23 ⟨rfl, t_⟩
        refine ⟨_, rfl, ?_⟩
        replace hM := hM.call t_
        clear t_
        (try simp only [Act.put, List.setIfInBounds_toArray, List.set_cons_zero, List.set_cons_succ])
        refine wl_nil ?_
        refine hK22 _ _ ?_
        (try clear hK22 K22)
        refine wp_cond_true rfl ?_
        refine wp_seq_k (fun K24 hK24 => ?_)
        refine wl_region ?_
        refine wl_give rfl (g_assign _ (.bool true) rfl ?_)
        (try simp only [Act.put, List.setIfInBounds_toArray, List.set_cons_zero, List.set_cons_succ])
        refine wl_nil ?_
        refine hK24 _ _ ?_
        (try clear hK24 K24)
        refine wp_ret ?_
        go_ret
        exact ⟨rfl, hM.below⟩
      · skip
        refine wp_seq_k (fun K25 hK25 => ?_)
        refine wl_region ?_
        refine wl_give rfl (g_load_all 32 _ (wr.heap.size) (([.int .i64 (k), .int .i64 (i), .string (s)] : List Value)) 32 _ rfl (hM.get 0 rfl) Try.underlying32 rfl (size32) ?_)
        (try simp only [Act.put, List.setIfInBounds_toArray, List.set_cons_zero, List.set_cons_succ])
        refine wl_give rfl (g_call 13 _ _ [.agg (([.int .i64 (k), .int .i64 (i), .string (s)] : List Value)).toArray] (kf13 _ _) rfl ((large_f k i s w20 hs).mono ?_))
        rintro e w26 ⟨rfl, t_⟩
        refine ⟨_, rfl, ?_⟩
        replace hM := hM.call t_
        clear t_
        (try simp only [Act.put, List.setIfInBounds_toArray, List.set_cons_zero, List.set_cons_succ])
        refine wl_nil ?_
        refine hK25 _ _ ?_
        (try clear hK25 K25)
        refine wp_cond_false rfl ?_
        refine wp_skip ?_
        refine hK21 _ _ ?_
        (try clear hK21 K21)
        refine wp_seq_k (fun K27 hK27 => ?_)
        refine wp_seq_k (fun K28 hK28 => ?_)
        refine wl_region ?_
        refine wl_give rfl (g_fa 32 _ (wr.heap.size) (0) (0) 0 rfl (fa32_0 _ _ _) ?_)
        (try simp only [Act.put, List.setIfInBounds_toArray, List.set_cons_zero, List.set_cons_succ])
        refine wl_give rfl (g_ld1 3 _ (wr.heap.size) 0 _ rfl (ld3 _ _ _ _ ((hM.get 0 rfl).cell 0 _ rfl)) ?_)
        (try simp only [Act.put, List.setIfInBounds_toArray, List.set_cons_zero, List.set_cons_succ])
        refine wl_nil ?_
        refine hK28 _ _ ?_
        (try clear hK28 K28)
        refine wp_block ?_
        by_cases hk0 : k = 0
        · skip
          refine wp_seq_k (fun K29 hK29 => ?_)
          refine wl_region ?_
          refine wl_give rfl (g_ieq 3 _ _ .i64 (k) (0) true rfl rfl (decide_eq_true hk0) ?_)
          (try simp only [Act.put, List.setIfInBounds_toArray, List.set_cons_zero, List.set_cons_succ])
          refine wl_give rfl (g_assign _ (.bool true) rfl ?_)
          (try simp only [Act.put, List.setIfInBounds_toArray, List.set_cons_zero, List.set_cons_succ])
          refine wl_nil ?_
          refine hK29 _ _ ?_
          (try clear hK29 K29)
          refine wp_cond_true rfl ?_
          refine wp_seq_k (fun K30 hK30 => ?_)
          refine wp_region_steps (by kernel_rfl) (by kernel_rfl) [5, 11] [0, 0, 0, 0, 0, 0, 0, 0, 0, 0, 0, 1, 2] [0, 2, 0, 2, 0, 1, 1, 2, 1, 2, 1, 2, 2] (by kernel_rfl) (Pm := Unit) (fun π => [.pointer (some ⟨p7, 0, none⟩), .pointer (some ⟨wr.heap.size, 1, none⟩), .int .i64 (i), .pointer (some ⟨wr.heap.size, 2, none⟩), .string (s), .int .i64 (bpE ((x : Nat) : Int) slots i s (L)), .pointer (some ⟨p10, 0, none⟩), .pointer (some ⟨wr.heap.size, 1, none⟩), .int .i64 (i), .pointer (some ⟨wr.heap.size, 2, none⟩), .string (s), .int .i64 (bpE ((x : Nat) : Int) slots i s (L)), .bool false]) (fun _ => by rfl) (fun j_ π wx => match j_ with | 0 => Ms w wx [blk (wr.heap.size) (([.int .i64 (k), .int .i64 (i), .string (s)] : List Value)) 32, bf p7 (x) (slots) (d) (L), rb p10 ((x : Nat) : Int) slots (d) (L)] | 1 => Ms w wx [bf p7 (x) (slots) (bpD ((x : Nat) : Int) slots i s (L) (d)) (bpL ((x : Nat) : Int) slots i s (L)), blk (wr.heap.size) (([.int .i64 (k), .int .i64 (i), .string (s)] : List Value)) 32, rb p10 ((x : Nat) : Int) slots (d) (L)] | _ => Ms w wx [rb p10 ((x : Nat) : Int) slots (bpD ((x : Nat) : Int) slots i s (L) (d)) (bpL ((x : Nat) : Int) slots i s (L)), bf p7 (x) (slots) (bpD ((x : Nat) : Int) slots i s (L) (d)) (bpL ((x : Nat) : Int) slots i s (L)), blk (wr.heap.size) (([.int .i64 (k), .int .i64 (i), .string (s)] : List Value)) 32]) () hM.drew ?_ ?_ ?_
          · intro j_ k_ o_ hj_ ho_ π wx hM
            rcases j_ with _ | _ | j_
            · obtain rfl := Option.some.inj hj_
              obtain rfl := Option.some.inj ho_
              simp only [fullL, Act.put, List.setIfInBounds_toArray, List.set_cons_succ, List.set_cons_zero]
              replace hM : Ms w wx [blk (wr.heap.size) (([.int .i64 (k), .int .i64 (i), .string (s)] : List Value)) 32, bf p7 (x) (slots) (d) (L), rb p10 ((x : Nat) : Int) slots (d) (L)] := hM
              exact gw rfl (g_call 14 _ _ [.pointer (some ⟨p7, 0, none⟩), .int .i64 (i), .string (s)] (kf14 _ _) rfl ((put_any (show Ms w wx [bf p7 (x) (slots) (d) (L), blk (wr.heap.size) (([.int .i64 (k), .int .i64 (i), .string (s)] : List Value)) 32, rb p10 ((x : Nat) : Int) slots (d) (L)] from (hM.up 1 rfl)) hx1 (by omega) hik (by omega) (by omega)).mono (fun e w' ⟨h1_, h2_⟩ => ⟨_, h1_, ⟨(), rfl, (fun _ _ _ => by first | rfl | trivial), h2_⟩⟩)))
            · obtain rfl := Option.some.inj hj_
              obtain rfl := Option.some.inj ho_
              simp only [fullL, Act.put, List.setIfInBounds_toArray, List.set_cons_succ, List.set_cons_zero]
              replace hM : Ms w wx [bf p7 (x) (slots) (bpD ((x : Nat) : Int) slots i s (L) (d)) (bpL ((x : Nat) : Int) slots i s (L)), blk (wr.heap.size) (([.int .i64 (k), .int .i64 (i), .string (s)] : List Value)) 32, rb p10 ((x : Nat) : Int) slots (d) (L)] := hM
              exact gw rfl (g_call 15 _ _ [.pointer (some ⟨p10, 0, none⟩), .int .i64 (i), .string (s)] (kf15 _ _) rfl ((rput_any (show Ms w wx [rb p10 ((x : Nat) : Int) slots (d) (L), bf p7 (x) (slots) (bpD ((x : Nat) : Int) slots i s (L) (d)) (bpL ((x : Nat) : Int) slots i s (L)), blk (wr.heap.size) (([.int .i64 (k), .int .i64 (i), .string (s)] : List Value)) 32] from (hM.up 2 rfl)) (by omega) (by omega) (by omega)).mono (fun e w' ⟨h1_, h2_⟩ => ⟨_, h1_, ⟨(), rfl, (fun _ _ _ => by first | rfl | trivial), h2_⟩⟩)))
            · simp at hj_
          · intro i_ o_ ho_ hi_ j_ hd_ hh_ hj_ π wx hM
            simp only [fullL, Act.put, List.setIfInBounds_toArray, List.set_cons_succ, List.set_cons_zero]
            rcases i_ with _ | _ | _ | _ | _ | _ | _ | _ | _ | _ | _ | _ | _ | i_
            · obtain rfl := Option.some.inj ho_
              exact gw rfl (g_move _ (.pointer (some ⟨p7, 0, none⟩)) rfl ⟨rfl, hM⟩)
            · obtain rfl := Option.some.inj ho_
              exact gw rfl (g_fa 32 _ (wr.heap.size) (0) (1) 1 rfl (fa32_1 _ _ _) ⟨rfl, hM⟩)
            · obtain rfl := Option.some.inj ho_
              rcases j_ with _ | _ | _ | j_
              · replace hM : Ms w wx [blk (wr.heap.size) (([.int .i64 (k), .int .i64 (i), .string (s)] : List Value)) 32, bf p7 (x) (slots) (d) (L), rb p10 ((x : Nat) : Int) slots (d) (L)] := hM
                exact gw rfl (g_ld1 3 _ (wr.heap.size) 1 _ rfl (ld3 _ _ _ _ ((hM.get 0 rfl).cell 1 _ rfl)) ⟨rfl, hM⟩)
              · exact absurd hh_ (by decide)
              · exact absurd hh_ (by decide)
              · exact absurd hj_ (by simp)
            · obtain rfl := Option.some.inj ho_
              exact gw rfl (g_fa 32 _ (wr.heap.size) (0) (2) 2 rfl (fa32_2 _ _ _) ⟨rfl, hM⟩)
            · obtain rfl := Option.some.inj ho_
              rcases j_ with _ | _ | _ | j_
              · replace hM : Ms w wx [blk (wr.heap.size) (([.int .i64 (k), .int .i64 (i), .string (s)] : List Value)) 32, bf p7 (x) (slots) (d) (L), rb p10 ((x : Nat) : Int) slots (d) (L)] := hM
                exact gw rfl (g_ld1 9 _ (wr.heap.size) 2 _ rfl (ld9 _ _ _ _ ((hM.get 0 rfl).cell 2 _ rfl)) ⟨rfl, hM⟩)
              · exact absurd hh_ (by decide)
              · exact absurd hh_ (by decide)
              · exact absurd hj_ (by simp)
            · exact absurd (by decide) hi_
            · obtain rfl := Option.some.inj ho_
              exact gw rfl (g_move _ (.pointer (some ⟨p10, 0, none⟩)) rfl ⟨rfl, hM⟩)
            · obtain rfl := Option.some.inj ho_
              exact gw rfl (g_fa 32 _ (wr.heap.size) (0) (1) 1 rfl (fa32_1 _ _ _) ⟨rfl, hM⟩)
            · obtain rfl := Option.some.inj ho_
              rcases j_ with _ | _ | _ | j_
              · replace hM : Ms w wx [blk (wr.heap.size) (([.int .i64 (k), .int .i64 (i), .string (s)] : List Value)) 32, bf p7 (x) (slots) (d) (L), rb p10 ((x : Nat) : Int) slots (d) (L)] := hM
                exact gw rfl (g_ld1 3 _ (wr.heap.size) 1 _ rfl (ld3 _ _ _ _ ((hM.get 0 rfl).cell 1 _ rfl)) ⟨rfl, hM⟩)
              · replace hM : Ms w wx [bf p7 (x) (slots) (bpD ((x : Nat) : Int) slots i s (L) (d)) (bpL ((x : Nat) : Int) slots i s (L)), blk (wr.heap.size) (([.int .i64 (k), .int .i64 (i), .string (s)] : List Value)) 32, rb p10 ((x : Nat) : Int) slots (d) (L)] := hM
                exact gw rfl (g_ld1 3 _ (wr.heap.size) 1 _ rfl (ld3 _ _ _ _ ((hM.get 1 rfl).cell 1 _ rfl)) ⟨rfl, hM⟩)
              · exact absurd hh_ (by decide)
              · exact absurd hj_ (by simp)
            · obtain rfl := Option.some.inj ho_
              exact gw rfl (g_fa 32 _ (wr.heap.size) (0) (2) 2 rfl (fa32_2 _ _ _) ⟨rfl, hM⟩)
            · obtain rfl := Option.some.inj ho_
              rcases j_ with _ | _ | _ | j_
              · replace hM : Ms w wx [blk (wr.heap.size) (([.int .i64 (k), .int .i64 (i), .string (s)] : List Value)) 32, bf p7 (x) (slots) (d) (L), rb p10 ((x : Nat) : Int) slots (d) (L)] := hM
                exact gw rfl (g_ld1 9 _ (wr.heap.size) 2 _ rfl (ld9 _ _ _ _ ((hM.get 0 rfl).cell 2 _ rfl)) ⟨rfl, hM⟩)
              · replace hM : Ms w wx [bf p7 (x) (slots) (bpD ((x : Nat) : Int) slots i s (L) (d)) (bpL ((x : Nat) : Int) slots i s (L)), blk (wr.heap.size) (([.int .i64 (k), .int .i64 (i), .string (s)] : List Value)) 32, rb p10 ((x : Nat) : Int) slots (d) (L)] := hM
                exact gw rfl (g_ld1 9 _ (wr.heap.size) 2 _ rfl (ld9 _ _ _ _ ((hM.get 1 rfl).cell 2 _ rfl)) ⟨rfl, hM⟩)
              · exact absurd hh_ (by decide)
              · exact absurd hj_ (by simp)
            · exact absurd (by decide) hi_
            · obtain rfl := Option.some.inj ho_
              exact gw rfl (g_ine 25 _ _ .i64 (bpE ((x : Nat) : Int) slots i s (L)) (bpE ((x : Nat) : Int) slots i s (L)) false rfl rfl (decide_eq_false (fun h => h rfl)) ⟨rfl, hM⟩)
            · simp at ho_
          · simp only [fullL, Act.put, List.setIfInBounds_toArray, List.set_cons_succ, List.set_cons_zero]
            rintro ⟨⟩ w31 hM
            replace hM : Ms w w31 [rb p10 ((x : Nat) : Int) slots (bpD ((x : Nat) : Int) slots i s (L) (d)) (bpL ((x : Nat) : Int) slots i s (L)), bf p7 (x) (slots) (bpD ((x : Nat) : Int) slots i s (L) (d)) (bpL ((x : Nat) : Int) slots i s (L)), blk (wr.heap.size) (([.int .i64 (k), .int .i64 (i), .string (s)] : List Value)) 32] := hM
            refine hK30 _ _ ?_
            (try clear hK30 K30)
            refine wp_cond_false rfl ?_
            refine wp_skip ?_
            refine hK27 _ _ ?_
            (try clear hK27 K27)
            have hI2 : Shut (Do (bpL ((x : Nat) : Int) slots i s (L)) (bpD ((x : Nat) : Int) slots i s (L) (d)) (j + 1)) := ⟨do_put _ _ _ _ hI.out⟩
            obtain ⟨L2, hL2⟩ : ∃ L2, L2 = bpL ((x : Nat) : Int) slots i s (L) := ⟨_, rfl⟩
            obtain ⟨d2, hd2⟩ : ∃ d2, d2 = bpD ((x : Nat) : Int) slots i s (L) (d) := ⟨_, rfl⟩
            have h9 := ((hM.up 0 rfl).up 1 rfl)
            have h10 : Ms w w31 [bf p7 (x) (slots) (d2) (L2), rb p10 ((x : Nat) : Int) slots (d2) (L2), blk (wr.heap.size) (([.int .i64 (k), .int .i64 (i), .string (s)] : List Value)) 32] := by rw [hL2, hd2]; exact h9
            rw [← hL2, ← hd2] at hI2
            clear hL2 hd2 h9 hM
            have hM := h10
            clear h10
            have hle2 := hI2.out.le
            refine wp_seq_k (fun K32 hK32 => ?_)
            refine wl_region ?_
            refine wl_give rfl (g_move _ (.pointer (some ⟨p7, 0, none⟩)) rfl ?_)
            (try simp only [Act.put, List.setIfInBounds_toArray, List.set_cons_zero, List.set_cons_succ])
            refine wl_give rfl (g_call 21 _ _ [.pointer (some ⟨p7, 0, none⟩)] (kf21 _ _) rfl ((to_row (ivals_any hM (by omega))).mono ?_))
            rintro e w33 ⟨o34, k35, rfl, h_⟩
            refine ⟨_, rfl, ?_⟩
            replace hM : Ms w w33 [row 3 1 (.slice o34 ((ivs (L2)).length) k35) ((ivs (L2)).length) ((ivs (L2)).map encZ), bf p7 (x) (slots) (d2) (L2), rb p10 ((x : Nat) : Int) slots (d2) (L2), blk (wr.heap.size) (([.int .i64 (k), .int .i64 (i), .string (s)] : List Value)) 32] := h_
            clear h_
            (try simp only [Act.put, List.setIfInBounds_toArray, List.set_cons_zero, List.set_cons_succ])
            refine wl_give rfl (g_move _ (.pointer (some ⟨p10, 0, none⟩)) rfl ?_)
            (try simp only [Act.put, List.setIfInBounds_toArray, List.set_cons_zero, List.set_cons_succ])
            refine wl_give rfl (g_call 22 _ _ [.pointer (some ⟨p10, 0, none⟩)] (kf22 _ _) rfl ((to_row (rivals_any (show Ms w w33 [rb p10 ((x : Nat) : Int) slots (d2) (L2), row 3 1 (.slice o34 ((ivs (L2)).length) k35) ((ivs (L2)).length) ((ivs (L2)).map encZ), bf p7 (x) (slots) (d2) (L2), blk (wr.heap.size) (([.int .i64 (k), .int .i64 (i), .string (s)] : List Value)) 32] from (hM.up 2 rfl)) (by omega))).mono ?_))
            rintro e w36 ⟨o37, k38, rfl, h_⟩
            refine ⟨_, rfl, ?_⟩
            replace hM : Ms w w36 [row 3 1 (.slice o37 ((ivs (L2)).length) k38) ((ivs (L2)).length) ((ivs (L2)).map encZ), rb p10 ((x : Nat) : Int) slots (d2) (L2), row 3 1 (.slice o34 ((ivs (L2)).length) k35) ((ivs (L2)).length) ((ivs (L2)).map encZ), bf p7 (x) (slots) (d2) (L2), blk (wr.heap.size) (([.int .i64 (k), .int .i64 (i), .string (s)] : List Value)) 32] := h_
            clear h_
            (try simp only [Act.put, List.setIfInBounds_toArray, List.set_cons_zero, List.set_cons_succ])
            refine wl_give rfl (g_assign _ (.slice o34 ((ivs (L2)).length) (k35)) rfl ?_)
            (try simp only [Act.put, List.setIfInBounds_toArray, List.set_cons_zero, List.set_cons_succ])
            refine wl_give rfl (g_assign _ (.slice o37 ((ivs (L2)).length) (k38)) rfl ?_)
            (try simp only [Act.put, List.setIfInBounds_toArray, List.set_cons_zero, List.set_cons_succ])
            refine wl_nil ?_
            refine hK32 _ _ ?_
            (try clear hK32 K32)
            refine wp_seq_k (fun K39 hK39 => ?_)
            obtain ⟨ao2, cap2, h9⟩ := rb_cut (hM.up 1 rfl)
            have hM : Ms w w36 [blk (p10) ([.int .i64 (((x : Nat) : Int)), .int .i64 (slots), .int .i64 (d2), .slice ao2 ((L2).length) (cap2)]) 44, row 64 2 (.slice ao2 (L2).length cap2) ((L2).length) (tcs (L2)), row 3 1 (.slice o37 ((ivs (L2)).length) k38) ((ivs (L2)).length) ((ivs (L2)).map encZ), row 3 1 (.slice o34 ((ivs (L2)).length) k35) ((ivs (L2)).length) ((ivs (L2)).map encZ), bf p7 (x) (slots) (d2) (L2), blk (wr.heap.size) (([.int .i64 (k), .int .i64 (i), .string (s)] : List Value)) 32] := h9
            clear h9
            refine wp_seq_k (fun K40 hK40 => ?_)
            (try simp only [List.append_eq, List.cons_append, List.nil_append])
            refine wp_region_steps (by kernel_rfl) (by kernel_rfl) [36] [0, 0, 0, 0, 0, 0, 0, 0, 0, 0, 0, 0, 0, 0, 0, 0, 0, 0, 0, 0, 0, 0, 0, 0, 0, 0, 0, 0, 0, 0, 0, 0, 0, 0, 0, 0, 0, 1, 1] [1, 1, 1, 1, 1, 1, 1, 1, 1, 1, 1, 1, 1, 1, 1, 1, 1, 1, 1, 1, 1, 1, 1, 1, 0, 1, 1, 1, 1, 1, 0, 0, 1, 0, 1, 0, 1, 1, 1] (by kernel_rfl) (Pm := Unit) (fun π => [.slice o34 ((ivs (L2)).length) (k35), .int .i64 ((((ivs (L2)).length : Nat) : Int)), .slice o37 ((ivs (L2)).length) (k38), .int .i64 ((((ivs (L2)).length : Nat) : Int)), .bool false, .bool false, .pointer (some ⟨p7, 0, none⟩), .int .i64 ((((L2).length : Nat) : Int)), .pointer (some ⟨p10, 0, none⟩), .pointer (some ⟨p10, 0, none⟩), .pointer (some ⟨p10, 3, none⟩), .slice ao2 ((L2).length) (cap2), .int .i64 ((((L2).length : Nat) : Int)), .bool false, .bool false, .bool false, .pointer (some ⟨p7, 0, none⟩), .int .i64 (d2), .pointer (some ⟨p10, 0, none⟩), .pointer (some ⟨p10, 0, none⟩), .pointer (some ⟨p10, 2, none⟩), .int .i64 (d2), .bool false, .bool false, .bool false, .pointer (some ⟨p7, 0, none⟩), .pointer (some ⟨wr.heap.size, 1, none⟩), .int .i64 (i), .pointer (some ⟨wr.heap.size, 2, none⟩), .string (s), .bool (hasT i s (L2)), .pointer (some ⟨p10, 0, none⟩), .pointer (some ⟨wr.heap.size, 1, none⟩), .int .i64 (i), .pointer (some ⟨wr.heap.size, 2, none⟩), .string (s), .bool (hasT i s (L2)), .bool false, .bool false]) (fun _ => by rfl) (fun j_ π wx => match j_ with | 0 => Ms w wx [blk (p10) ([.int .i64 (((x : Nat) : Int)), .int .i64 (slots), .int .i64 (d2), .slice ao2 ((L2).length) (cap2)]) 44, row 64 2 (.slice ao2 (L2).length cap2) ((L2).length) (tcs (L2)), row 3 1 (.slice o37 ((ivs (L2)).length) k38) ((ivs (L2)).length) ((ivs (L2)).map encZ), row 3 1 (.slice o34 ((ivs (L2)).length) k35) ((ivs (L2)).length) ((ivs (L2)).map encZ), bf p7 (x) (slots) (d2) (L2), blk (wr.heap.size) (([.int .i64 (k), .int .i64 (i), .string (s)] : List Value)) 32] | _ => Ms w wx [blk (p10) ([.int .i64 (((x : Nat) : Int)), .int .i64 (slots), .int .i64 (d2), .slice ao2 ((L2).length) (cap2)]) 44, row 64 2 (.slice ao2 (L2).length cap2) ((L2).length) (tcs (L2)), row 3 1 (.slice o37 ((ivs (L2)).length) k38) ((ivs (L2)).length) ((ivs (L2)).map encZ), row 3 1 (.slice o34 ((ivs (L2)).length) k35) ((ivs (L2)).length) ((ivs (L2)).map encZ), bf p7 (x) (slots) (d2) (L2), blk (wr.heap.size) (([.int .i64 (k), .int .i64 (i), .string (s)] : List Value)) 32]) () hM.drew ?_ ?_ ?_
            · intro j_ k_ o_ hj_ ho_ π wx hM
              rcases j_ with _ | j_
              · obtain rfl := Option.some.inj hj_
                obtain rfl := Option.some.inj ho_
                simp only [fullL, Act.put, List.setIfInBounds_toArray, List.set_cons_succ, List.set_cons_zero]
                replace hM : Ms w wx [blk (p10) ([.int .i64 (((x : Nat) : Int)), .int .i64 (slots), .int .i64 (d2), .slice ao2 ((L2).length) (cap2)]) 44, row 64 2 (.slice ao2 (L2).length cap2) ((L2).length) (tcs (L2)), row 3 1 (.slice o37 ((ivs (L2)).length) k38) ((ivs (L2)).length) ((ivs (L2)).map encZ), row 3 1 (.slice o34 ((ivs (L2)).length) k35) ((ivs (L2)).length) ((ivs (L2)).map encZ), bf p7 (x) (slots) (d2) (L2), blk (wr.heap.size) (([.int .i64 (k), .int .i64 (i), .string (s)] : List Value)) 32] := hM
                exact gw rfl (g_call 26 _ _ [.pointer (some ⟨p10, 0, none⟩), .int .i64 (i), .string (s)] (kf26 _ _) rfl ((rhas_op (show Ms w wx [blk (p10) ([.int .i64 (((x : Nat) : Int)), .int .i64 (slots), .int .i64 (d2), .slice ao2 ((L2).length) (cap2)]) 44, row 64 2 (.slice ao2 (L2).length cap2) ((L2).length) (tcs (L2)), row 3 1 (.slice o37 ((ivs (L2)).length) k38) ((ivs (L2)).length) ((ivs (L2)).map encZ), row 3 1 (.slice o34 ((ivs (L2)).length) k35) ((ivs (L2)).length) ((ivs (L2)).map encZ), bf p7 (x) (slots) (d2) (L2), blk (wr.heap.size) (([.int .i64 (k), .int .i64 (i), .string (s)] : List Value)) 32] from ((hM.up 1 rfl).up 1 rfl)) (by omega)).mono (fun e w' ⟨h1_, h2_⟩ => ⟨_, h1_, ⟨(), rfl, (fun _ _ _ => by first | rfl | trivial), h2_⟩⟩)))
              · simp at hj_
            · intro i_ o_ ho_ hi_ j_ hd_ hh_ hj_ π wx hM
              simp only [fullL, Act.put, List.setIfInBounds_toArray, List.set_cons_succ, List.set_cons_zero]
              rcases i_ with _ | _ | _ | _ | _ | _ | _ | _ | _ | _ | _ | _ | _ | _ | _ | _ | _ | _ | _ | _ | _ | _ | _ | _ | _ | _ | _ | _ | _ | _ | _ | _ | _ | _ | _ | _ | _ | _ | _ | i_
              · obtain rfl := Option.some.inj ho_
                exact gw rfl (g_move _ (.slice o34 ((ivs (L2)).length) (k35)) rfl ⟨rfl, hM⟩)
              · obtain rfl := Option.some.inj ho_
                exact gw rfl (g_len _ 39 3 (o34) ((ivs (L2)).length) (k35) ((((ivs (L2)).length : Nat) : Int)) Try.underlying39 rfl rfl ⟨rfl, hM⟩)
              · obtain rfl := Option.some.inj ho_
                exact gw rfl (g_move _ (.slice o37 ((ivs (L2)).length) (k38)) rfl ⟨rfl, hM⟩)
              · obtain rfl := Option.some.inj ho_
                exact gw rfl (g_len _ 39 3 (o37) ((ivs (L2)).length) (k38) ((((ivs (L2)).length : Nat) : Int)) Try.underlying39 rfl rfl ⟨rfl, hM⟩)
              · obtain rfl := Option.some.inj ho_
                exact gw rfl (g_ine 3 _ _ .i64 ((((ivs (L2)).length : Nat) : Int)) ((((ivs (L2)).length : Nat) : Int)) false rfl rfl (decide_eq_false (fun h => h rfl)) ⟨rfl, hM⟩)
              · obtain rfl := Option.some.inj ho_
                exact gw rfl (g_move _ (.bool false) rfl ⟨rfl, hM⟩)
              · obtain rfl := Option.some.inj ho_
                exact gw rfl (g_move _ (.pointer (some ⟨p7, 0, none⟩)) rfl ⟨rfl, hM⟩)
              · obtain rfl := Option.some.inj ho_
                rcases j_ with _ | _ | j_
                · replace hM : Ms w wx [blk (p10) ([.int .i64 (((x : Nat) : Int)), .int .i64 (slots), .int .i64 (d2), .slice ao2 ((L2).length) (cap2)]) 44, row 64 2 (.slice ao2 (L2).length cap2) ((L2).length) (tcs (L2)), row 3 1 (.slice o37 ((ivs (L2)).length) k38) ((ivs (L2)).length) ((ivs (L2)).map encZ), row 3 1 (.slice o34 ((ivs (L2)).length) k35) ((ivs (L2)).length) ((ivs (L2)).map encZ), bf p7 (x) (slots) (d2) (L2), blk (wr.heap.size) (([.int .i64 (k), .int .i64 (i), .string (s)] : List Value)) 32] := hM
                  exact gw rfl (g_call 23 _ _ [.pointer (some ⟨p7, 0, none⟩)] (kf23 _ _) rfl ((keep1 4 rfl (fun R_ h_ => size_v (n := (((L2).length : Nat) : Int)) h_ (by omega) (rfl)) hM).mono (fun _ _ ⟨h1_, h2_⟩ => ⟨_, h1_, rfl, h2_⟩)))
                · replace hM : Ms w wx [blk (p10) ([.int .i64 (((x : Nat) : Int)), .int .i64 (slots), .int .i64 (d2), .slice ao2 ((L2).length) (cap2)]) 44, row 64 2 (.slice ao2 (L2).length cap2) ((L2).length) (tcs (L2)), row 3 1 (.slice o37 ((ivs (L2)).length) k38) ((ivs (L2)).length) ((ivs (L2)).map encZ), row 3 1 (.slice o34 ((ivs (L2)).length) k35) ((ivs (L2)).length) ((ivs (L2)).map encZ), bf p7 (x) (slots) (d2) (L2), blk (wr.heap.size) (([.int .i64 (k), .int .i64 (i), .string (s)] : List Value)) 32] := hM
                  exact gw rfl (g_call 23 _ _ [.pointer (some ⟨p7, 0, none⟩)] (kf23 _ _) rfl ((keep1 4 rfl (fun R_ h_ => size_v (n := (((L2).length : Nat) : Int)) h_ (by omega) (rfl)) hM).mono (fun _ _ ⟨h1_, h2_⟩ => ⟨_, h1_, rfl, h2_⟩)))
                · exact absurd hj_ (by simp)
              · obtain rfl := Option.some.inj ho_
                exact gw rfl (g_move _ (.pointer (some ⟨p10, 0, none⟩)) rfl ⟨rfl, hM⟩)
              · obtain rfl := Option.some.inj ho_
                exact gw rfl (g_nil _ ⟨p10, 0, none⟩ rfl ⟨rfl, hM⟩)
              · obtain rfl := Option.some.inj ho_
                exact gw rfl (g_fa 44 _ (p10) (0) (3) 3 rfl (fa44_3 _ _ _) ⟨rfl, hM⟩)
              · obtain rfl := Option.some.inj ho_
                rcases j_ with _ | _ | j_
                · replace hM : Ms w wx [blk (p10) ([.int .i64 (((x : Nat) : Int)), .int .i64 (slots), .int .i64 (d2), .slice ao2 ((L2).length) (cap2)]) 44, row 64 2 (.slice ao2 (L2).length cap2) ((L2).length) (tcs (L2)), row 3 1 (.slice o37 ((ivs (L2)).length) k38) ((ivs (L2)).length) ((ivs (L2)).map encZ), row 3 1 (.slice o34 ((ivs (L2)).length) k35) ((ivs (L2)).length) ((ivs (L2)).map encZ), bf p7 (x) (slots) (d2) (L2), blk (wr.heap.size) (([.int .i64 (k), .int .i64 (i), .string (s)] : List Value)) 32] := hM
                  exact gw rfl (g_ld1 42 _ (p10) 3 _ rfl (ld42 _ _ _ _ ((hM.get 0 rfl).cell 3 _ rfl)) ⟨rfl, hM⟩)
                · replace hM : Ms w wx [blk (p10) ([.int .i64 (((x : Nat) : Int)), .int .i64 (slots), .int .i64 (d2), .slice ao2 ((L2).length) (cap2)]) 44, row 64 2 (.slice ao2 (L2).length cap2) ((L2).length) (tcs (L2)), row 3 1 (.slice o37 ((ivs (L2)).length) k38) ((ivs (L2)).length) ((ivs (L2)).map encZ), row 3 1 (.slice o34 ((ivs (L2)).length) k35) ((ivs (L2)).length) ((ivs (L2)).map encZ), bf p7 (x) (slots) (d2) (L2), blk (wr.heap.size) (([.int .i64 (k), .int .i64 (i), .string (s)] : List Value)) 32] := hM
                  exact gw rfl (g_ld1 42 _ (p10) 3 _ rfl (ld42 _ _ _ _ ((hM.get 0 rfl).cell 3 _ rfl)) ⟨rfl, hM⟩)
                · exact absurd hj_ (by simp)
              · obtain rfl := Option.some.inj ho_
                exact gw rfl (g_len _ 42 64 (ao2) ((L2).length) (cap2) ((((L2).length : Nat) : Int)) Try.underlying42 rfl rfl ⟨rfl, hM⟩)
              · obtain rfl := Option.some.inj ho_
                exact gw rfl (g_ine 3 _ _ .i64 ((((L2).length : Nat) : Int)) ((((L2).length : Nat) : Int)) false rfl rfl (decide_eq_false (fun h => h rfl)) ⟨rfl, hM⟩)
              · obtain rfl := Option.some.inj ho_
                exact gw rfl (g_pickf _ _ _ (.bool false) rfl rfl ⟨rfl, hM⟩)
              · obtain rfl := Option.some.inj ho_
                exact gw rfl (g_move _ (.bool false) rfl ⟨rfl, hM⟩)
              · obtain rfl := Option.some.inj ho_
                exact gw rfl (g_move _ (.pointer (some ⟨p7, 0, none⟩)) rfl ⟨rfl, hM⟩)
              · obtain rfl := Option.some.inj ho_
                rcases j_ with _ | _ | j_
                · replace hM : Ms w wx [blk (p10) ([.int .i64 (((x : Nat) : Int)), .int .i64 (slots), .int .i64 (d2), .slice ao2 ((L2).length) (cap2)]) 44, row 64 2 (.slice ao2 (L2).length cap2) ((L2).length) (tcs (L2)), row 3 1 (.slice o37 ((ivs (L2)).length) k38) ((ivs (L2)).length) ((ivs (L2)).map encZ), row 3 1 (.slice o34 ((ivs (L2)).length) k35) ((ivs (L2)).length) ((ivs (L2)).map encZ), bf p7 (x) (slots) (d2) (L2), blk (wr.heap.size) (([.int .i64 (k), .int .i64 (i), .string (s)] : List Value)) 32] := hM
                  exact gw rfl (g_call 24 _ _ [.pointer (some ⟨p7, 0, none⟩)] (kf24 _ _) rfl ((keep1 4 rfl (fun R_ h_ => dropped_any h_) hM).mono (fun _ _ ⟨h1_, h2_⟩ => ⟨_, h1_, rfl, h2_⟩)))
                · replace hM : Ms w wx [blk (p10) ([.int .i64 (((x : Nat) : Int)), .int .i64 (slots), .int .i64 (d2), .slice ao2 ((L2).length) (cap2)]) 44, row 64 2 (.slice ao2 (L2).length cap2) ((L2).length) (tcs (L2)), row 3 1 (.slice o37 ((ivs (L2)).length) k38) ((ivs (L2)).length) ((ivs (L2)).map encZ), row 3 1 (.slice o34 ((ivs (L2)).length) k35) ((ivs (L2)).length) ((ivs (L2)).map encZ), bf p7 (x) (slots) (d2) (L2), blk (wr.heap.size) (([.int .i64 (k), .int .i64 (i), .string (s)] : List Value)) 32] := hM
                  exact gw rfl (g_call 24 _ _ [.pointer (some ⟨p7, 0, none⟩)] (kf24 _ _) rfl ((keep1 4 rfl (fun R_ h_ => dropped_any h_) hM).mono (fun _ _ ⟨h1_, h2_⟩ => ⟨_, h1_, rfl, h2_⟩)))
                · exact absurd hj_ (by simp)
              · obtain rfl := Option.some.inj ho_
                exact gw rfl (g_move _ (.pointer (some ⟨p10, 0, none⟩)) rfl ⟨rfl, hM⟩)
              · obtain rfl := Option.some.inj ho_
                exact gw rfl (g_nil _ ⟨p10, 0, none⟩ rfl ⟨rfl, hM⟩)
              · obtain rfl := Option.some.inj ho_
                exact gw rfl (g_fa 44 _ (p10) (0) (2) 2 rfl (fa44_2 _ _ _) ⟨rfl, hM⟩)
              · obtain rfl := Option.some.inj ho_
                rcases j_ with _ | _ | j_
                · replace hM : Ms w wx [blk (p10) ([.int .i64 (((x : Nat) : Int)), .int .i64 (slots), .int .i64 (d2), .slice ao2 ((L2).length) (cap2)]) 44, row 64 2 (.slice ao2 (L2).length cap2) ((L2).length) (tcs (L2)), row 3 1 (.slice o37 ((ivs (L2)).length) k38) ((ivs (L2)).length) ((ivs (L2)).map encZ), row 3 1 (.slice o34 ((ivs (L2)).length) k35) ((ivs (L2)).length) ((ivs (L2)).map encZ), bf p7 (x) (slots) (d2) (L2), blk (wr.heap.size) (([.int .i64 (k), .int .i64 (i), .string (s)] : List Value)) 32] := hM
                  exact gw rfl (g_ld1 3 _ (p10) 2 _ rfl (ld3 _ _ _ _ ((hM.get 0 rfl).cell 2 _ rfl)) ⟨rfl, hM⟩)
                · replace hM : Ms w wx [blk (p10) ([.int .i64 (((x : Nat) : Int)), .int .i64 (slots), .int .i64 (d2), .slice ao2 ((L2).length) (cap2)]) 44, row 64 2 (.slice ao2 (L2).length cap2) ((L2).length) (tcs (L2)), row 3 1 (.slice o37 ((ivs (L2)).length) k38) ((ivs (L2)).length) ((ivs (L2)).map encZ), row 3 1 (.slice o34 ((ivs (L2)).length) k35) ((ivs (L2)).length) ((ivs (L2)).map encZ), bf p7 (x) (slots) (d2) (L2), blk (wr.heap.size) (([.int .i64 (k), .int .i64 (i), .string (s)] : List Value)) 32] := hM
                  exact gw rfl (g_ld1 3 _ (p10) 2 _ rfl (ld3 _ _ _ _ ((hM.get 0 rfl).cell 2 _ rfl)) ⟨rfl, hM⟩)
                · exact absurd hj_ (by simp)
              · obtain rfl := Option.some.inj ho_
                exact gw rfl (g_ine 3 _ _ .i64 (d2) (d2) false rfl rfl (decide_eq_false (fun h => h rfl)) ⟨rfl, hM⟩)
              · obtain rfl := Option.some.inj ho_
                exact gw rfl (g_pickf _ _ _ (.bool false) rfl rfl ⟨rfl, hM⟩)
              · obtain rfl := Option.some.inj ho_
                exact gw rfl (g_move _ (.bool false) rfl ⟨rfl, hM⟩)
              · obtain rfl := Option.some.inj ho_
                exact gw rfl (g_move _ (.pointer (some ⟨p7, 0, none⟩)) rfl ⟨rfl, hM⟩)
              · obtain rfl := Option.some.inj ho_
                exact gw rfl (g_fa 32 _ (wr.heap.size) (0) (1) 1 rfl (fa32_1 _ _ _) ⟨rfl, hM⟩)
              · obtain rfl := Option.some.inj ho_
                rcases j_ with _ | _ | j_
                · replace hM : Ms w wx [blk (p10) ([.int .i64 (((x : Nat) : Int)), .int .i64 (slots), .int .i64 (d2), .slice ao2 ((L2).length) (cap2)]) 44, row 64 2 (.slice ao2 (L2).length cap2) ((L2).length) (tcs (L2)), row 3 1 (.slice o37 ((ivs (L2)).length) k38) ((ivs (L2)).length) ((ivs (L2)).map encZ), row 3 1 (.slice o34 ((ivs (L2)).length) k35) ((ivs (L2)).length) ((ivs (L2)).map encZ), bf p7 (x) (slots) (d2) (L2), blk (wr.heap.size) (([.int .i64 (k), .int .i64 (i), .string (s)] : List Value)) 32] := hM
                  exact gw rfl (g_ld1 3 _ (wr.heap.size) 1 _ rfl (ld3 _ _ _ _ ((hM.get 5 rfl).cell 1 _ rfl)) ⟨rfl, hM⟩)
                · replace hM : Ms w wx [blk (p10) ([.int .i64 (((x : Nat) : Int)), .int .i64 (slots), .int .i64 (d2), .slice ao2 ((L2).length) (cap2)]) 44, row 64 2 (.slice ao2 (L2).length cap2) ((L2).length) (tcs (L2)), row 3 1 (.slice o37 ((ivs (L2)).length) k38) ((ivs (L2)).length) ((ivs (L2)).map encZ), row 3 1 (.slice o34 ((ivs (L2)).length) k35) ((ivs (L2)).length) ((ivs (L2)).map encZ), bf p7 (x) (slots) (d2) (L2), blk (wr.heap.size) (([.int .i64 (k), .int .i64 (i), .string (s)] : List Value)) 32] := hM
                  exact gw rfl (g_ld1 3 _ (wr.heap.size) 1 _ rfl (ld3 _ _ _ _ ((hM.get 5 rfl).cell 1 _ rfl)) ⟨rfl, hM⟩)
                · exact absurd hj_ (by simp)
              · obtain rfl := Option.some.inj ho_
                exact gw rfl (g_fa 32 _ (wr.heap.size) (0) (2) 2 rfl (fa32_2 _ _ _) ⟨rfl, hM⟩)
              · obtain rfl := Option.some.inj ho_
                rcases j_ with _ | _ | j_
                · replace hM : Ms w wx [blk (p10) ([.int .i64 (((x : Nat) : Int)), .int .i64 (slots), .int .i64 (d2), .slice ao2 ((L2).length) (cap2)]) 44, row 64 2 (.slice ao2 (L2).length cap2) ((L2).length) (tcs (L2)), row 3 1 (.slice o37 ((ivs (L2)).length) k38) ((ivs (L2)).length) ((ivs (L2)).map encZ), row 3 1 (.slice o34 ((ivs (L2)).length) k35) ((ivs (L2)).length) ((ivs (L2)).map encZ), bf p7 (x) (slots) (d2) (L2), blk (wr.heap.size) (([.int .i64 (k), .int .i64 (i), .string (s)] : List Value)) 32] := hM
                  exact gw rfl (g_ld1 9 _ (wr.heap.size) 2 _ rfl (ld9 _ _ _ _ ((hM.get 5 rfl).cell 2 _ rfl)) ⟨rfl, hM⟩)
                · replace hM : Ms w wx [blk (p10) ([.int .i64 (((x : Nat) : Int)), .int .i64 (slots), .int .i64 (d2), .slice ao2 ((L2).length) (cap2)]) 44, row 64 2 (.slice ao2 (L2).length cap2) ((L2).length) (tcs (L2)), row 3 1 (.slice o37 ((ivs (L2)).length) k38) ((ivs (L2)).length) ((ivs (L2)).map encZ), row 3 1 (.slice o34 ((ivs (L2)).length) k35) ((ivs (L2)).length) ((ivs (L2)).map encZ), bf p7 (x) (slots) (d2) (L2), blk (wr.heap.size) (([.int .i64 (k), .int .i64 (i), .string (s)] : List Value)) 32] := hM
                  exact gw rfl (g_ld1 9 _ (wr.heap.size) 2 _ rfl (ld9 _ _ _ _ ((hM.get 5 rfl).cell 2 _ rfl)) ⟨rfl, hM⟩)
                · exact absurd hj_ (by simp)
              · obtain rfl := Option.some.inj ho_
                rcases j_ with _ | _ | j_
                · replace hM : Ms w wx [blk (p10) ([.int .i64 (((x : Nat) : Int)), .int .i64 (slots), .int .i64 (d2), .slice ao2 ((L2).length) (cap2)]) 44, row 64 2 (.slice ao2 (L2).length cap2) ((L2).length) (tcs (L2)), row 3 1 (.slice o37 ((ivs (L2)).length) k38) ((ivs (L2)).length) ((ivs (L2)).map encZ), row 3 1 (.slice o34 ((ivs (L2)).length) k35) ((ivs (L2)).length) ((ivs (L2)).map encZ), bf p7 (x) (slots) (d2) (L2), blk (wr.heap.size) (([.int .i64 (k), .int .i64 (i), .string (s)] : List Value)) 32] := hM
                  exact gw rfl (g_call 25 _ _ [.pointer (some ⟨p7, 0, none⟩), .int .i64 (i), .string (s)] (kf25 _ _) rfl ((keep1 4 rfl (fun R_ h_ => has_v (r := hasT i s (L2)) h_ (by omega) rfl) hM).mono (fun _ _ ⟨h1_, h2_⟩ => ⟨_, h1_, rfl, h2_⟩)))
                · exact absurd hh_ (by decide)
                · exact absurd hj_ (by simp)
              · obtain rfl := Option.some.inj ho_
                exact gw rfl (g_move _ (.pointer (some ⟨p10, 0, none⟩)) rfl ⟨rfl, hM⟩)
              · obtain rfl := Option.some.inj ho_
                exact gw rfl (g_fa 32 _ (wr.heap.size) (0) (1) 1 rfl (fa32_1 _ _ _) ⟨rfl, hM⟩)
              · obtain rfl := Option.some.inj ho_
                rcases j_ with _ | _ | j_
                · replace hM : Ms w wx [blk (p10) ([.int .i64 (((x : Nat) : Int)), .int .i64 (slots), .int .i64 (d2), .slice ao2 ((L2).length) (cap2)]) 44, row 64 2 (.slice ao2 (L2).length cap2) ((L2).length) (tcs (L2)), row 3 1 (.slice o37 ((ivs (L2)).length) k38) ((ivs (L2)).length) ((ivs (L2)).map encZ), row 3 1 (.slice o34 ((ivs (L2)).length) k35) ((ivs (L2)).length) ((ivs (L2)).map encZ), bf p7 (x) (slots) (d2) (L2), blk (wr.heap.size) (([.int .i64 (k), .int .i64 (i), .string (s)] : List Value)) 32] := hM
                  exact gw rfl (g_ld1 3 _ (wr.heap.size) 1 _ rfl (ld3 _ _ _ _ ((hM.get 5 rfl).cell 1 _ rfl)) ⟨rfl, hM⟩)
                · exact absurd hh_ (by decide)
                · exact absurd hj_ (by simp)
              · obtain rfl := Option.some.inj ho_
                exact gw rfl (g_fa 32 _ (wr.heap.size) (0) (2) 2 rfl (fa32_2 _ _ _) ⟨rfl, hM⟩)
              · obtain rfl := Option.some.inj ho_
                rcases j_ with _ | _ | j_
                · replace hM : Ms w wx [blk (p10) ([.int .i64 (((x : Nat) : Int)), .int .i64 (slots), .int .i64 (d2), .slice ao2 ((L2).length) (cap2)]) 44, row 64 2 (.slice ao2 (L2).length cap2) ((L2).length) (tcs (L2)), row 3 1 (.slice o37 ((ivs (L2)).length) k38) ((ivs (L2)).length) ((ivs (L2)).map encZ), row 3 1 (.slice o34 ((ivs (L2)).length) k35) ((ivs (L2)).length) ((ivs (L2)).map encZ), bf p7 (x) (slots) (d2) (L2), blk (wr.heap.size) (([.int .i64 (k), .int .i64 (i), .string (s)] : List Value)) 32] := hM
                  exact gw rfl (g_ld1 9 _ (wr.heap.size) 2 _ rfl (ld9 _ _ _ _ ((hM.get 5 rfl).cell 2 _ rfl)) ⟨rfl, hM⟩)
                · exact absurd hh_ (by decide)
                · exact absurd hj_ (by simp)
              · exact absurd (by decide) hi_
              · obtain rfl := Option.some.inj ho_
                exact gw rfl (g_bne _ _ (hasT i s (L2)) (hasT i s (L2)) false rfl rfl (by simp) ⟨rfl, hM⟩)
              · obtain rfl := Option.some.inj ho_
                exact gw rfl (g_pickf _ _ _ (.bool false) rfl rfl ⟨rfl, hM⟩)
              · simp at ho_
            · simp only [fullL, Act.put, List.setIfInBounds_toArray, List.set_cons_succ, List.set_cons_zero]
              rintro ⟨⟩ w41 hM
              replace hM : Ms w w41 [blk (p10) ([.int .i64 (((x : Nat) : Int)), .int .i64 (slots), .int .i64 (d2), .slice ao2 ((L2).length) (cap2)]) 44, row 64 2 (.slice ao2 (L2).length cap2) ((L2).length) (tcs (L2)), row 3 1 (.slice o37 ((ivs (L2)).length) k38) ((ivs (L2)).length) ((ivs (L2)).map encZ), row 3 1 (.slice o34 ((ivs (L2)).length) k35) ((ivs (L2)).length) ((ivs (L2)).map encZ), bf p7 (x) (slots) (d2) (L2), blk (wr.heap.size) (([.int .i64 (k), .int .i64 (i), .string (s)] : List Value)) 32] := hM
              refine hK40 _ _ ?_
              (try clear hK40 K40)
              refine wp_cond_false rfl ?_
              refine wp_skip ?_
              refine hK39 _ _ ?_
              (try clear hK39 K39)
              refine wp_seq_k (fun K42 hK42 => ?_)
              refine wl_region ?_
              refine wl_give rfl (g_move _ (.slice o34 ((ivs (L2)).length) (k35)) rfl ?_)
              (try simp only [Act.put, List.setIfInBounds_toArray, List.set_cons_zero, List.set_cons_succ])
              refine wl_give rfl (g_len _ 39 3 (o34) ((ivs (L2)).length) (k35) ((((ivs (L2)).length : Nat) : Int)) Try.underlying39 rfl rfl ?_)
              (try simp only [Act.put, List.setIfInBounds_toArray, List.set_cons_zero, List.set_cons_succ])
              refine wl_give rfl (g_move _ (.int .i64 (0)) rfl ?_)
              (try simp only [Act.put, List.setIfInBounds_toArray, List.set_cons_zero, List.set_cons_succ])
              refine wl_nil ?_
              refine hK42 _ _ ?_
              (try clear hK42 K42)
              refine wp_block ?_
              have h9 := ((((((hM.up 5 rfl).up 5 rfl).up 3 rfl).up 3 rfl).up 4 rfl).up 5 rfl)
              have hivl : (ivs (L2)).length ≤ 101 := Nat.le_trans (ivs_le _) (by omega)
              refine wp_rounds (fun m2 st wr2 => ∃ (e : Nat) (u : Nat → Value), st = ⟨#[.int .i64 (((x : Nat) : Int)), .int .i64 (slots), .slice (some ⟨b, o, none⟩) (n) (cap), undef, undef, undef, .bool false, .pointer (some ⟨p7, 0, none⟩), .int .i64 (0), .pointer (some ⟨p10, 0, none⟩), .int .i64 (0), .int .i64 (((j : Nat) : Int)), .pointer (some ⟨wr.heap.size, 0, none⟩), .slice o34 ((ivs (L2)).length) (k35), .slice o37 ((ivs (L2)).length) (k38), u 15, t 16, t 17, t 18, t 19, t 20, t 21, t 22, t 23, t 24, t 25, t 26, t 27, t 28, t 29, t 30, t 31, t 32, t 33, t 34, t 35, t 36, t 37, t 38, t 39, .int .i64 (((j : Nat) : Int)), .slice (some ⟨b, o, none⟩) (n) (cap), .int .i64 (((n : Nat) : Int)), .bool true, .bool true, .int .i64 (((j : Nat) : Int)), .bool true, .bool true, .bool true, .pointer (some ⟨p10, 0, none⟩), .bool true, .bool true, t 52, t 53, .slice (some ⟨b, o, none⟩) (n) (cap), .int .i64 (((j : Nat) : Int)), .pointer (some ⟨b, o + j * 3, none⟩), .agg (([.int .i64 (k), .int .i64 (i), .string (s)] : List Value)).toArray, .agg (([.int .i64 (k), .int .i64 (i), .string (s)] : List Value)).toArray, .bool false, .pointer (some ⟨wr.heap.size, 0, none⟩), .int .i64 (k), .bool true, .bool true, .pointer (some ⟨p7, 0, none⟩), .pointer (some ⟨wr.heap.size, 1, none⟩), .int .i64 (i), .pointer (some ⟨wr.heap.size, 2, none⟩), .string (s), .int .i64 (bpE ((x : Nat) : Int) slots i s (L)), .pointer (some ⟨p10, 0, none⟩), .pointer (some ⟨wr.heap.size, 1, none⟩), .int .i64 (i), .pointer (some ⟨wr.heap.size, 2, none⟩), .string (s), .int .i64 (bpE ((x : Nat) : Int) slots i s (L)), .bool false, t 77, t 78, t 79, t 80, t 81, t 82, t 83, t 84, t 85, t 86, t 87, t 88, t 89, t 90, t 91, t 92, t 93, t 94, t 95, t 96, t 97, t 98, t 99, .pointer (some ⟨p7, 0, none⟩), .slice o34 ((ivs (L2)).length) (k35), .pointer (some ⟨p10, 0, none⟩), .slice o37 ((ivs (L2)).length) (k38), .slice o34 ((ivs (L2)).length) (k35), .int .i64 ((((ivs (L2)).length : Nat) : Int)), .slice o37 ((ivs (L2)).length) (k38), .int .i64 ((((ivs (L2)).length : Nat) : Int)), .bool false, .bool false, .pointer (some ⟨p7, 0, none⟩), .int .i64 ((((L2).length : Nat) : Int)), .pointer (some ⟨p10, 0, none⟩), .pointer (some ⟨p10, 0, none⟩), .pointer (some ⟨p10, 3, none⟩), .slice ao2 ((L2).length) (cap2), .int .i64 ((((L2).length : Nat) : Int)), .bool false, .bool false, .bool false, .pointer (some ⟨p7, 0, none⟩), .int .i64 (d2), .pointer (some ⟨p10, 0, none⟩), .pointer (some ⟨p10, 0, none⟩), .pointer (some ⟨p10, 2, none⟩), .int .i64 (d2), .bool false, .bool false, .bool false, .pointer (some ⟨p7, 0, none⟩), .pointer (some ⟨wr.heap.size, 1, none⟩), .int .i64 (i), .pointer (some ⟨wr.heap.size, 2, none⟩), .string (s), .bool (hasT i s (L2)), .pointer (some ⟨p10, 0, none⟩), .pointer (some ⟨wr.heap.size, 1, none⟩), .int .i64 (i), .pointer (some ⟨wr.heap.size, 2, none⟩), .string (s), .bool (hasT i s (L2)), .bool false, .bool false, .slice o34 ((ivs (L2)).length) (k35), .int .i64 ((((ivs (L2)).length : Nat) : Int)), .int .i64 ((e : Nat) : Int), u 146, u 147, u 148, u 149, u 150, u 151, u 152, u 153, u 154, u 155, u 156, u 157], []⟩ ∧ e + m2 = (ivs (L2)).length ∧ Ms w wr2 [row 3 1 (.slice o34 ((ivs (L2)).length) k35) ((ivs (L2)).length) ((ivs (L2)).map encZ), row 3 1 (.slice o37 ((ivs (L2)).length) k38) ((ivs (L2)).length) ((ivs (L2)).map encZ), blk (p10) ([.int .i64 (((x : Nat) : Int)), .int .i64 (slots), .int .i64 (d2), .slice ao2 ((L2).length) (cap2)]) 44, row 64 2 (.slice ao2 (L2).length cap2) ((L2).length) (tcs (L2)), bf p7 (x) (slots) (d2) (L2), blk (wr.heap.size) (([.int .i64 (k), .int .i64 (i), .string (s)] : List Value)) 32]) _ ⟨0, (tl [.int .i64 (((x : Nat) : Int)), .int .i64 (slots), .slice (some ⟨b, o, none⟩) (n) (cap), undef, undef, undef, .bool false, .pointer (some ⟨p7, 0, none⟩), .int .i64 (0), .pointer (some ⟨p10, 0, none⟩), .int .i64 (0), .int .i64 (((j : Nat) : Int)), .pointer (some ⟨wr.heap.size, 0, none⟩), .slice o34 ((ivs (L2)).length) (k35), .slice o37 ((ivs (L2)).length) (k38), t 15, t 16, t 17, t 18, t 19, t 20, t 21, t 22, t 23, t 24, t 25, t 26, t 27, t 28, t 29, t 30, t 31, t 32, t 33, t 34, t 35, t 36, t 37, t 38, t 39, .int .i64 (((j : Nat) : Int)), .slice (some ⟨b, o, none⟩) (n) (cap), .int .i64 (((n : Nat) : Int)), .bool true, .bool true, .int .i64 (((j : Nat) : Int)), .bool true, .bool true, .bool true, .pointer (some ⟨p10, 0, none⟩), .bool true, .bool true, t 52, t 53, .slice (some ⟨b, o, none⟩) (n) (cap), .int .i64 (((j : Nat) : Int)), .pointer (some ⟨b, o + j * 3, none⟩), .agg (([.int .i64 (k), .int .i64 (i), .string (s)] : List Value)).toArray, .agg (([.int .i64 (k), .int .i64 (i), .string (s)] : List Value)).toArray, .bool false, .pointer (some ⟨wr.heap.size, 0, none⟩), .int .i64 (k), .bool true, .bool true, .pointer (some ⟨p7, 0, none⟩), .pointer (some ⟨wr.heap.size, 1, none⟩), .int .i64 (i), .pointer (some ⟨wr.heap.size, 2, none⟩), .string (s), .int .i64 (bpE ((x : Nat) : Int) slots i s (L)), .pointer (some ⟨p10, 0, none⟩), .pointer (some ⟨wr.heap.size, 1, none⟩), .int .i64 (i), .pointer (some ⟨wr.heap.size, 2, none⟩), .string (s), .int .i64 (bpE ((x : Nat) : Int) slots i s (L)), .bool false, t 77, t 78, t 79, t 80, t 81, t 82, t 83, t 84, t 85, t 86, t 87, t 88, t 89, t 90, t 91, t 92, t 93, t 94, t 95, t 96, t 97, t 98, t 99, .pointer (some ⟨p7, 0, none⟩), .slice o34 ((ivs (L2)).length) (k35), .pointer (some ⟨p10, 0, none⟩), .slice o37 ((ivs (L2)).length) (k38), .slice o34 ((ivs (L2)).length) (k35), .int .i64 ((((ivs (L2)).length : Nat) : Int)), .slice o37 ((ivs (L2)).length) (k38), .int .i64 ((((ivs (L2)).length : Nat) : Int)), .bool false, .bool false, .pointer (some ⟨p7, 0, none⟩), .int .i64 ((((L2).length : Nat) : Int)), .pointer (some ⟨p10, 0, none⟩), .pointer (some ⟨p10, 0, none⟩), .pointer (some ⟨p10, 3, none⟩), .slice ao2 ((L2).length) (cap2), .int .i64 ((((L2).length : Nat) : Int)), .bool false, .bool false, .bool false, .pointer (some ⟨p7, 0, none⟩), .int .i64 (d2), .pointer (some ⟨p10, 0, none⟩), .pointer (some ⟨p10, 0, none⟩), .pointer (some ⟨p10, 2, none⟩), .int .i64 (d2), .bool false, .bool false, .bool false, .pointer (some ⟨p7, 0, none⟩), .pointer (some ⟨wr.heap.size, 1, none⟩), .int .i64 (i), .pointer (some ⟨wr.heap.size, 2, none⟩), .string (s), .bool (hasT i s (L2)), .pointer (some ⟨p10, 0, none⟩), .pointer (some ⟨wr.heap.size, 1, none⟩), .int .i64 (i), .pointer (some ⟨wr.heap.size, 2, none⟩), .string (s), .bool (hasT i s (L2)), .bool false, .bool false, .slice o34 ((ivs (L2)).length) (k35), .int .i64 ((((ivs (L2)).length : Nat) : Int)), .int .i64 (0), t 146, t 147, t 148, t 149, t 150, t 151, t 152, t 153, t 154, t 155, t 156, t 157]), rfl, Nat.zero_add _, h9⟩ ?_
              clear hM h9
              rintro m2 st wr2 ⟨e, u, rfl, he, hM⟩
              by_cases h5 : ((e : Nat) : Int) < (((ivs (L2)).length : Nat) : Int)
              · skip
                have hel : e < (ivs (L2)).length := by omega
                obtain ⟨yy, hy⟩ : ∃ yy, (ivs (L2))[e]? = some yy := ⟨_, List.getElem?_eq_getElem hel⟩
                have he1 : Shut (IntKind.i64.wrap (((e : Nat) : Int) + 1) = ((e + 1 : Nat) : Int)) := ⟨by rw [wrap_id _ (by omega) (by omega)]; omega⟩
                obtain ⟨g1, c1, hv1, hM⟩ := row_sl hM (by omega)
                cases hv1
                obtain ⟨g2, c2, hv2, hM⟩ := row_sl (hM.up 1 rfl) (by omega)
                cases hv2
                replace hM : Ms w wr2 [sl 3 1 g2 k38 ((ivs (L2)).length) ((ivs (L2)).map encZ), sl 3 1 g1 k35 ((ivs (L2)).length) ((ivs (L2)).map encZ), blk (p10) ([.int .i64 (((x : Nat) : Int)), .int .i64 (slots), .int .i64 (d2), .slice ao2 ((L2).length) (cap2)]) 44, row 64 2 (.slice ao2 (L2).length cap2) ((L2).length) (tcs (L2)), bf p7 (x) (slots) (d2) (L2), blk (wr.heap.size) (([.int .i64 (k), .int .i64 (i), .string (s)] : List Value)) 32] := hM
                refine wp_seq_k (fun K43 hK43 => ?_)
                refine wl_region ?_
                refine wl_give rfl (g_ilss 3 _ _ .i64 (((e : Nat) : Int)) ((((ivs (L2)).length : Nat) : Int)) true rfl rfl (decide_eq_true h5) ?_)
                (try simp only [Act.put, List.setIfInBounds_toArray, List.set_cons_zero, List.set_cons_succ])
                refine wl_nil ?_
                refine hK43 _ _ ?_
                (try clear hK43 K43)
                refine wp_seq_k (fun K44 hK44 => ?_)
                refine wp_cond_true rfl ?_
                refine wp_skip ?_
                refine hK44 _ _ ?_
                (try clear hK44 K44)
                refine wp_seq_k (fun K45 hK45 => ?_)
                refine wp_block ?_
                refine wp_seq_k (fun K46 hK46 => ?_)
                refine wl_region ?_
                refine wl_give rfl (g_move _ (.int .i64 (((e : Nat) : Int))) rfl ?_)
                (try simp only [Act.put, List.setIfInBounds_toArray, List.set_cons_zero, List.set_cons_succ])
                refine wl_give rfl (g_assign _ (.int .i64 (((e : Nat) : Int))) rfl ?_)
                (try simp only [Act.put, List.setIfInBounds_toArray, List.set_cons_zero, List.set_cons_succ])
                refine wl_nil ?_
                refine hK46 _ _ ?_
                (try clear hK46 K46)
                refine wp_seq_k (fun K47 hK47 => ?_)
                refine wp_region_fixed (by kernel_rfl) (by kernel_rfl) [.slice (some ⟨g1, 0, none⟩) ((ivs (L2)).length) (k35), .int .i64 (((e : Nat) : Int)), .pointer (some ⟨g1, 0 + e * 1, none⟩), .int .i64 (yy), .slice (some ⟨g2, 0, none⟩) ((ivs (L2)).length) (k38), .int .i64 (((e : Nat) : Int)), .pointer (some ⟨g2, 0 + e * 1, none⟩), .int .i64 (yy), .bool false] (by rfl) (fun wx => Ms w wx [sl 3 1 g2 k38 ((ivs (L2)).length) ((ivs (L2)).map encZ), sl 3 1 g1 k35 ((ivs (L2)).length) ((ivs (L2)).map encZ), blk (p10) ([.int .i64 (((x : Nat) : Int)), .int .i64 (slots), .int .i64 (d2), .slice ao2 ((L2).length) (cap2)]) 44, row 64 2 (.slice ao2 (L2).length cap2) ((L2).length) (tcs (L2)), bf p7 (x) (slots) (d2) (L2), blk (wr.heap.size) (([.int .i64 (k), .int .i64 (i), .string (s)] : List Value)) 32]) hM.drew ?_ ?_
                · simp only [fullL, Act.put, List.setIfInBounds_toArray, List.set_cons_succ, List.set_cons_zero]
                  refine ⟨?_, ?_, ?_, ?_, ?_, ?_, ?_, ?_, ?_, trivial⟩
                  · exact fun wx hM => gw rfl (g_move _ (.slice (some ⟨g1, 0, none⟩) ((ivs (L2)).length) (k35)) rfl ⟨rfl, hM⟩)
                  · exact fun wx hM => gw rfl (g_move _ (.int .i64 (((e : Nat) : Int))) rfl ⟨rfl, hM⟩)
                  · exact fun wx hM => gw rfl (g_ix _ _ 39 3 1 Try.underlying39 szof3 g1 0 ((ivs (L2)).length) k35 e (0 + e * 1) _ rfl rfl rfl hel rfl ⟨rfl, hM⟩)
                  · exact fun wx hM => gw rfl (g_ld1 3 _ (g1) (0 + e * 1) _ rfl (ld3 _ _ _ _ (by rw [Nat.mul_one, Nat.zero_add]; exact sl_cell (show Ms w _ [sl 3 1 g1 k35 ((ivs (L2)).length) ((ivs (L2)).map encZ), sl 3 1 g2 k38 ((ivs (L2)).length) ((ivs (L2)).map encZ), blk (p10) ([.int .i64 (((x : Nat) : Int)), .int .i64 (slots), .int .i64 (d2), .slice ao2 ((L2).length) (cap2)]) 44, row 64 2 (.slice ao2 (L2).length cap2) ((L2).length) (tcs (L2)), bf p7 (x) (slots) (d2) (L2), blk (wr.heap.size) (([.int .i64 (k), .int .i64 (i), .string (s)] : List Value)) 32] from (hM.up 1 rfl)) e _ (enc_at hy))) ⟨rfl, hM⟩)
                  · exact fun wx hM => gw rfl (g_move _ (.slice (some ⟨g2, 0, none⟩) ((ivs (L2)).length) (k38)) rfl ⟨rfl, hM⟩)
                  · exact fun wx hM => gw rfl (g_move _ (.int .i64 (((e : Nat) : Int))) rfl ⟨rfl, hM⟩)
                  · exact fun wx hM => gw rfl (g_ix _ _ 39 3 1 Try.underlying39 szof3 g2 0 ((ivs (L2)).length) k38 e (0 + e * 1) _ rfl rfl rfl hel rfl ⟨rfl, hM⟩)
                  · exact fun wx hM => gw rfl (g_ld1 3 _ (g2) (0 + e * 1) _ rfl (ld3 _ _ _ _ (by rw [Nat.mul_one, Nat.zero_add]; exact sl_cell hM e _ (enc_at hy))) ⟨rfl, hM⟩)
                  · exact fun wx hM => gw rfl (g_ine 3 _ _ .i64 (yy) (yy) false rfl rfl (decide_eq_false (fun h => h rfl)) ⟨rfl, hM⟩)
                · simp only [fullL, Act.put, List.setIfInBounds_toArray, List.set_cons_succ, List.set_cons_zero]
                  intro w48 hM
                  refine hK47 _ _ ?_
                  (try clear hK47 K47)
                  refine wp_cond_false rfl ?_
                  refine wp_skip ?_
                  refine hK45 _ _ ?_
                  (try clear hK45 K45)
                  refine wl_region ?_
                  refine wl_give rfl (g_ia 3 _ _ .i64 (((e : Nat) : Int)) (1) (((e + 1 : Nat) : Int)) rfl rfl (he1.out) ?_)
                  (try simp only [Act.put, List.setIfInBounds_toArray, List.set_cons_zero, List.set_cons_succ])
                  refine wl_give rfl (g_move _ (.int .i64 (((e + 1 : Nat) : Int))) rfl ?_)
                  (try simp only [Act.put, List.setIfInBounds_toArray, List.set_cons_zero, List.set_cons_succ])
                  refine wl_nil ?_
                  (try simp only [Exit.then, Exit.inBlock, ↓reduceIte, Nat.reduceEqDiff])
                  have h9 := sl_row ((((((hM.up 5 rfl).up 5 rfl).up 5 rfl).up 5 rfl).up 4 rfl).up 5 rfl)
                  have h10 := (sl_row (h9.up 1 rfl)).up 1 rfl
                  exact ⟨m2 - 1, by omega, e + 1, (tl [.int .i64 (((x : Nat) : Int)), .int .i64 (slots), .slice (some ⟨b, o, none⟩) (n) (cap), undef, undef, undef, .bool false, .pointer (some ⟨p7, 0, none⟩), .int .i64 (0), .pointer (some ⟨p10, 0, none⟩), .int .i64 (0), .int .i64 (((j : Nat) : Int)), .pointer (some ⟨wr.heap.size, 0, none⟩), .slice (some ⟨g1, 0, none⟩) ((ivs (L2)).length) (k35), .slice (some ⟨g2, 0, none⟩) ((ivs (L2)).length) (k38), .int .i64 (((e : Nat) : Int)), t 16, t 17, t 18, t 19, t 20, t 21, t 22, t 23, t 24, t 25, t 26, t 27, t 28, t 29, t 30, t 31, t 32, t 33, t 34, t 35, t 36, t 37, t 38, t 39, .int .i64 (((j : Nat) : Int)), .slice (some ⟨b, o, none⟩) (n) (cap), .int .i64 (((n : Nat) : Int)), .bool true, .bool true, .int .i64 (((j : Nat) : Int)), .bool true, .bool true, .bool true, .pointer (some ⟨p10, 0, none⟩), .bool true, .bool true, t 52, t 53, .slice (some ⟨b, o, none⟩) (n) (cap), .int .i64 (((j : Nat) : Int)), .pointer (some ⟨b, o + j * 3, none⟩), .agg (([.int .i64 (k), .int .i64 (i), .string (s)] : List Value)).toArray, .agg (([.int .i64 (k), .int .i64 (i), .string (s)] : List Value)).toArray, .bool false, .pointer (some ⟨wr.heap.size, 0, none⟩), .int .i64 (k), .bool true, .bool true, .pointer (some ⟨p7, 0, none⟩), .pointer (some ⟨wr.heap.size, 1, none⟩), .int .i64 (i), .pointer (some ⟨wr.heap.size, 2, none⟩), .string (s), .int .i64 (bpE ((x : Nat) : Int) slots i s (L)), .pointer (some ⟨p10, 0, none⟩), .pointer (some ⟨wr.heap.size, 1, none⟩), .int .i64 (i), .pointer (some ⟨wr.heap.size, 2, none⟩), .string (s), .int .i64 (bpE ((x : Nat) : Int) slots i s (L)), .bool false, t 77, t 78, t 79, t 80, t 81, t 82, t 83, t 84, t 85, t 86, t 87, t 88, t 89, t 90, t 91, t 92, t 93, t 94, t 95, t 96, t 97, t 98, t 99, .pointer (some ⟨p7, 0, none⟩), .slice (some ⟨g1, 0, none⟩) ((ivs (L2)).length) (k35), .pointer (some ⟨p10, 0, none⟩), .slice (some ⟨g2, 0, none⟩) ((ivs (L2)).length) (k38), .slice (some ⟨g1, 0, none⟩) ((ivs (L2)).length) (k35), .int .i64 ((((ivs (L2)).length : Nat) : Int)), .slice (some ⟨g2, 0, none⟩) ((ivs (L2)).length) (k38), .int .i64 ((((ivs (L2)).length : Nat) : Int)), .bool false, .bool false, .pointer (some ⟨p7, 0, none⟩), .int .i64 ((((L2).length : Nat) : Int)), .pointer (some ⟨p10, 0, none⟩), .pointer (some ⟨p10, 0, none⟩), .pointer (some ⟨p10, 3, none⟩), .slice ao2 ((L2).length) (cap2), .int .i64 ((((L2).length : Nat) : Int)), .bool false, .bool false, .bool false, .pointer (some ⟨p7, 0, none⟩), .int .i64 (d2), .pointer (some ⟨p10, 0, none⟩), .pointer (some ⟨p10, 0, none⟩), .pointer (some ⟨p10, 2, none⟩), .int .i64 (d2), .bool false, .bool false, .bool false, .pointer (some ⟨p7, 0, none⟩), .pointer (some ⟨wr.heap.size, 1, none⟩), .int .i64 (i), .pointer (some ⟨wr.heap.size, 2, none⟩), .string (s), .bool (hasT i s (L2)), .pointer (some ⟨p10, 0, none⟩), .pointer (some ⟨wr.heap.size, 1, none⟩), .int .i64 (i), .pointer (some ⟨wr.heap.size, 2, none⟩), .string (s), .bool (hasT i s (L2)), .bool false, .bool false, .slice (some ⟨g1, 0, none⟩) ((ivs (L2)).length) (k35), .int .i64 ((((ivs (L2)).length : Nat) : Int)), .int .i64 (((e + 1 : Nat) : Int)), .bool true, .int .i64 (((e : Nat) : Int)), .slice (some ⟨g1, 0, none⟩) ((ivs (L2)).length) (k35), .int .i64 (((e : Nat) : Int)), .pointer (some ⟨g1, 0 + e * 1, none⟩), .int .i64 (yy), .slice (some ⟨g2, 0, none⟩) ((ivs (L2)).length) (k38), .int .i64 (((e : Nat) : Int)), .pointer (some ⟨g2, 0 + e * 1, none⟩), .int .i64 (yy), .bool false, .int .i64 (((e + 1 : Nat) : Int))]), rfl, by omega, h10⟩
              · skip
                refine wp_seq_k (fun K49 hK49 => ?_)
                refine wl_region ?_
                refine wl_give rfl (g_ilss 3 _ _ .i64 (((e : Nat) : Int)) ((((ivs (L2)).length : Nat) : Int)) false rfl rfl (decide_eq_false h5) ?_)
                (try simp only [Act.put, List.setIfInBounds_toArray, List.set_cons_zero, List.set_cons_succ])
                refine wl_nil ?_
                refine hK49 _ _ ?_
                (try clear hK49 K49)
                refine wp_seq_k (fun K50 hK50 => ?_)
                refine wp_cond_false rfl ?_
                refine wp_exit ?_
                refine hK17 _ _ ?_
                (try clear hK17 K17)
                refine wl_region ?_
                refine wl_give rfl (g_move _ (.int .i64 (((j : Nat) : Int))) rfl ?_)
                (try simp only [Act.put, List.setIfInBounds_toArray, List.set_cons_zero, List.set_cons_succ])
                refine wl_give rfl (g_ia 3 _ _ .i64 (((j : Nat) : Int)) (1) (((j + 1 : Nat) : Int)) rfl rfl (hj1.out) ?_)
                (try simp only [Act.put, List.setIfInBounds_toArray, List.set_cons_zero, List.set_cons_succ])
                refine wl_give rfl (g_assign _ (.int .i64 (((j + 1 : Nat) : Int))) rfl ?_)
                (try simp only [Act.put, List.setIfInBounds_toArray, List.set_cons_zero, List.set_cons_succ])
                refine wl_nil ?_
                (try simp only [Exit.then, Exit.inBlock, ↓reduceIte, Nat.reduceEqDiff])
                have h9 := rb_mk ((((((hM.up 5 rfl).up 2 rfl).up 2 rfl).up 5 rfl).up 5 rfl).up 5 rfl)
                replace h9 := h9.up 1 rfl
                replace h9 := h9.erase 2
                replace h9 := h9.erase 2
                replace h9 := h9.erase 2
                exact ⟨m - 1, by omega, j + 1, _, _, (tl [.int .i64 (((x : Nat) : Int)), .int .i64 (slots), .slice (some ⟨b, o, none⟩) (n) (cap), undef, undef, undef, .bool false, .pointer (some ⟨p7, 0, none⟩), .int .i64 (0), .pointer (some ⟨p10, 0, none⟩), .int .i64 (0), .int .i64 (((j + 1 : Nat) : Int)), .pointer (some ⟨wr.heap.size, 0, none⟩), .slice o34 ((ivs (L2)).length) (k35), .slice o37 ((ivs (L2)).length) (k38), u 15, t 16, t 17, t 18, t 19, t 20, t 21, t 22, t 23, t 24, t 25, t 26, t 27, t 28, t 29, t 30, t 31, t 32, t 33, t 34, t 35, t 36, t 37, t 38, t 39, .int .i64 (((j : Nat) : Int)), .slice (some ⟨b, o, none⟩) (n) (cap), .int .i64 (((n : Nat) : Int)), .bool true, .bool true, .int .i64 (((j : Nat) : Int)), .bool true, .bool true, .bool true, .pointer (some ⟨p10, 0, none⟩), .bool true, .bool true, .int .i64 (((j : Nat) : Int)), .int .i64 (((j + 1 : Nat) : Int)), .slice (some ⟨b, o, none⟩) (n) (cap), .int .i64 (((j : Nat) : Int)), .pointer (some ⟨b, o + j * 3, none⟩), .agg (([.int .i64 (k), .int .i64 (i), .string (s)] : List Value)).toArray, .agg (([.int .i64 (k), .int .i64 (i), .string (s)] : List Value)).toArray, .bool false, .pointer (some ⟨wr.heap.size, 0, none⟩), .int .i64 (k), .bool true, .bool true, .pointer (some ⟨p7, 0, none⟩), .pointer (some ⟨wr.heap.size, 1, none⟩), .int .i64 (i), .pointer (some ⟨wr.heap.size, 2, none⟩), .string (s), .int .i64 (bpE ((x : Nat) : Int) slots i s (L)), .pointer (some ⟨p10, 0, none⟩), .pointer (some ⟨wr.heap.size, 1, none⟩), .int .i64 (i), .pointer (some ⟨wr.heap.size, 2, none⟩), .string (s), .int .i64 (bpE ((x : Nat) : Int) slots i s (L)), .bool false, t 77, t 78, t 79, t 80, t 81, t 82, t 83, t 84, t 85, t 86, t 87, t 88, t 89, t 90, t 91, t 92, t 93, t 94, t 95, t 96, t 97, t 98, t 99, .pointer (some ⟨p7, 0, none⟩), .slice o34 ((ivs (L2)).length) (k35), .pointer (some ⟨p10, 0, none⟩), .slice o37 ((ivs (L2)).length) (k38), .slice o34 ((ivs (L2)).length) (k35), .int .i64 ((((ivs (L2)).length : Nat) : Int)), .slice o37 ((ivs (L2)).length) (k38), .int .i64 ((((ivs (L2)).length : Nat) : Int)), .bool false, .bool false, .pointer (some ⟨p7, 0, none⟩), .int .i64 ((((L2).length : Nat) : Int)), .pointer (some ⟨p10, 0, none⟩), .pointer (some ⟨p10, 0, none⟩), .pointer (some ⟨p10, 3, none⟩), .slice ao2 ((L2).length) (cap2), .int .i64 ((((L2).length : Nat) : Int)), .bool false, .bool false, .bool false, .pointer (some ⟨p7, 0, none⟩), .int .i64 (d2), .pointer (some ⟨p10, 0, none⟩), .pointer (some ⟨p10, 0, none⟩), .pointer (some ⟨p10, 2, none⟩), .int .i64 (d2), .bool false, .bool false, .bool false, .pointer (some ⟨p7, 0, none⟩), .pointer (some ⟨wr.heap.size, 1, none⟩), .int .i64 (i), .pointer (some ⟨wr.heap.size, 2, none⟩), .string (s), .bool (hasT i s (L2)), .pointer (some ⟨p10, 0, none⟩), .pointer (some ⟨wr.heap.size, 1, none⟩), .int .i64 (i), .pointer (some ⟨wr.heap.size, 2, none⟩), .string (s), .bool (hasT i s (L2)), .bool false, .bool false, .slice o34 ((ivs (L2)).length) (k35), .int .i64 ((((ivs (L2)).length : Nat) : Int)), .int .i64 (((e : Nat) : Int)), .bool false, u 147, u 148, u 149, u 150, u 151, u 152, u 153, u 154, u 155, u 156, u 157]), rfl, by omega, hI2, h9⟩
        by_cases hk1 : k = 1
        · skip
          refine wp_seq_k (fun K51 hK51 => ?_)
          refine wl_region ?_
          refine wl_give rfl (g_ieq 3 _ _ .i64 (k) (0) false rfl rfl (decide_eq_false hk0) ?_)
          (try simp only [Act.put, List.setIfInBounds_toArray, List.set_cons_zero, List.set_cons_succ])
          refine wl_give rfl (g_assign _ (.bool false) rfl ?_)
          (try simp only [Act.put, List.setIfInBounds_toArray, List.set_cons_zero, List.set_cons_succ])
          refine wl_nil ?_
          refine hK51 _ _ ?_
          (try clear hK51 K51)
          refine wp_cond_false rfl ?_
          refine wp_seq_k (fun K52 hK52 => ?_)
          refine wl_region ?_
          refine wl_give rfl (g_ieq 3 _ _ .i64 (k) (1) true rfl rfl (decide_eq_true hk1) ?_)
          (try simp only [Act.put, List.setIfInBounds_toArray, List.set_cons_zero, List.set_cons_succ])
          refine wl_give rfl (g_assign _ (.bool true) rfl ?_)
          (try simp only [Act.put, List.setIfInBounds_toArray, List.set_cons_zero, List.set_cons_succ])
          refine wl_nil ?_
          refine hK52 _ _ ?_
          (try clear hK52 K52)
          refine wp_cond_true rfl ?_
          refine wp_seq_k (fun K53 hK53 => ?_)
          refine wp_region_steps (by kernel_rfl) (by kernel_rfl) [3, 7, 8] [0, 0, 0, 0, 0, 0, 0, 1, 2, 3] [0, 3, 0, 1, 1, 3, 1, 2, 3, 3] (by kernel_rfl) (Pm := Option Addr × Nat × Option Addr × Nat) (fun π => [.pointer (some ⟨p7, 0, none⟩), .pointer (some ⟨wr.heap.size, 1, none⟩), .int .i64 (i), .slice π.1 ((ofI i L).length) (π.2.1), .pointer (some ⟨p10, 0, none⟩), .pointer (some ⟨wr.heap.size, 1, none⟩), .int .i64 (i), .slice π.2.2.1 ((ofI i L).length) (π.2.2.2), .bool true, .bool false]) (fun _ => by rfl) (fun j_ π wx => match j_ with | 0 => Ms w wx [blk (wr.heap.size) (([.int .i64 (k), .int .i64 (i), .string (s)] : List Value)) 32, bf p7 (x) (slots) (d) (L), rb p10 ((x : Nat) : Int) slots (d) (L)] | 1 => Ms w wx [row 9 1 (.slice π.1 ((ofI i L).length) π.2.1) ((ofI i L).length) ((ofI i L).map Value.string), bf p7 (x) (slots) (d) (notI i L), blk (wr.heap.size) (([.int .i64 (k), .int .i64 (i), .string (s)] : List Value)) 32, rb p10 ((x : Nat) : Int) slots (d) (L)] | 2 => Ms w wx [row 9 1 (.slice π.2.2.1 ((ofI i L).length) π.2.2.2) ((ofI i L).length) ((ofI i L).map Value.string), rb p10 ((x : Nat) : Int) slots (d) (notI i L), row 9 1 (.slice π.1 ((ofI i L).length) π.2.1) ((ofI i L).length) ((ofI i L).map Value.string), bf p7 (x) (slots) (d) (notI i L), blk (wr.heap.size) (([.int .i64 (k), .int .i64 (i), .string (s)] : List Value)) 32] | _ => Ms w wx [row 9 1 (.slice π.1 ((ofI i L).length) π.2.1) ((ofI i L).length) ((ofI i L).map Value.string), row 9 1 (.slice π.2.2.1 ((ofI i L).length) π.2.2.2) ((ofI i L).length) ((ofI i L).map Value.string), rb p10 ((x : Nat) : Int) slots (d) (notI i L), bf p7 (x) (slots) (d) (notI i L), blk (wr.heap.size) (([.int .i64 (k), .int .i64 (i), .string (s)] : List Value)) 32]) (none, 0, none, 0) hM.drew ?_ ?_ ?_
          · intro j_ k_ o_ hj_ ho_ π wx hM
            rcases j_ with _ | _ | _ | j_
            · obtain rfl := Option.some.inj hj_
              obtain rfl := Option.some.inj ho_
              simp only [fullL, Act.put, List.setIfInBounds_toArray, List.set_cons_succ, List.set_cons_zero]
              replace hM : Ms w wx [blk (wr.heap.size) (([.int .i64 (k), .int .i64 (i), .string (s)] : List Value)) 32, bf p7 (x) (slots) (d) (L), rb p10 ((x : Nat) : Int) slots (d) (L)] := hM
              exact gw rfl (g_call 17 _ _ [.pointer (some ⟨p7, 0, none⟩), .int .i64 (i)] (kf17 _ _) rfl ((to_row (take_any (show Ms w wx [bf p7 (x) (slots) (d) (L), blk (wr.heap.size) (([.int .i64 (k), .int .i64 (i), .string (s)] : List Value)) 32, rb p10 ((x : Nat) : Int) slots (d) (L)] from (hM.up 1 rfl)) (by omega))).mono (fun e w' ⟨g_0, g_1, h1_, h2_⟩ => ⟨_, h1_, ⟨(g_0, g_1, π.2.2.1, π.2.2.2), rfl, fun i h1 h2 => by rcases i with _ | _ | _ | _ | _ | _ | _ | _ | _ | _ | i <;> first | rfl | trivial | exact absurd rfl h2 | exact absurd h1 (by decide), h2_⟩⟩)))
            · obtain rfl := Option.some.inj hj_
              obtain rfl := Option.some.inj ho_
              simp only [fullL, Act.put, List.setIfInBounds_toArray, List.set_cons_succ, List.set_cons_zero]
              replace hM : Ms w wx [row 9 1 (.slice π.1 ((ofI i L).length) π.2.1) ((ofI i L).length) ((ofI i L).map Value.string), bf p7 (x) (slots) (d) (notI i L), blk (wr.heap.size) (([.int .i64 (k), .int .i64 (i), .string (s)] : List Value)) 32, rb p10 ((x : Nat) : Int) slots (d) (L)] := hM
              exact gw rfl (g_call 18 _ _ [.pointer (some ⟨p10, 0, none⟩), .int .i64 (i)] (kf18 _ _) rfl ((to_row (rtake_any (show Ms w wx [rb p10 ((x : Nat) : Int) slots (d) (L), row 9 1 (.slice π.1 ((ofI i L).length) π.2.1) ((ofI i L).length) ((ofI i L).map Value.string), bf p7 (x) (slots) (d) (notI i L), blk (wr.heap.size) (([.int .i64 (k), .int .i64 (i), .string (s)] : List Value)) 32] from (hM.up 3 rfl)) (by omega))).mono (fun e w' ⟨g_0, g_1, h1_, h2_⟩ => ⟨_, h1_, ⟨(π.1, π.2.1, g_0, g_1), rfl, fun i h1 h2 => by rcases i with _ | _ | _ | _ | _ | _ | _ | _ | _ | _ | i <;> first | rfl | trivial | exact absurd rfl h2 | exact absurd h1 (by decide), h2_⟩⟩)))
            · obtain rfl := Option.some.inj hj_
              obtain rfl := Option.some.inj ho_
              simp only [fullL, Act.put, List.setIfInBounds_toArray, List.set_cons_succ, List.set_cons_zero]
              replace hM : Ms w wx [row 9 1 (.slice π.2.2.1 ((ofI i L).length) π.2.2.2) ((ofI i L).length) ((ofI i L).map Value.string), rb p10 ((x : Nat) : Int) slots (d) (notI i L), row 9 1 (.slice π.1 ((ofI i L).length) π.2.1) ((ofI i L).length) ((ofI i L).map Value.string), bf p7 (x) (slots) (d) (notI i L), blk (wr.heap.size) (([.int .i64 (k), .int .i64 (i), .string (s)] : List Value)) 32] := hM
              exact gw rfl (g_call 16 _ _ [.slice π.1 ((ofI i L).length) (π.2.1), .slice π.2.2.1 ((ofI i L).length) (π.2.2.2)] (kf16 _ _) rfl ((texts_any (xs := ofI i L) (ys := ofI i L) (r := true) (show Ms w wx [row 9 1 (.slice π.1 ((ofI i L).length) π.2.1) ((ofI i L).length) ((ofI i L).map Value.string), row 9 1 (.slice π.2.2.1 ((ofI i L).length) π.2.2.2) ((ofI i L).length) ((ofI i L).map Value.string), rb p10 ((x : Nat) : Int) slots (d) (notI i L), bf p7 (x) (slots) (d) (notI i L), blk (wr.heap.size) (([.int .i64 (k), .int .i64 (i), .string (s)] : List Value)) 32] from (hM.up 2 rfl)) (by have := ofI_le i L; omega) (decide_eq_true rfl)).mono (fun e w' ⟨h1_, h2_⟩ => ⟨_, h1_, ⟨(π.1, π.2.1, π.2.2.1, π.2.2.2), rfl, fun i h1 h2 => by rcases i with _ | _ | _ | _ | _ | _ | _ | _ | _ | _ | i <;> first | rfl | trivial | exact absurd rfl h2 | exact absurd h1 (by decide), h2_⟩⟩)))
            · simp at hj_
          · intro i_ o_ ho_ hi_ j_ hd_ hh_ hj_ π wx hM
            simp only [fullL, Act.put, List.setIfInBounds_toArray, List.set_cons_succ, List.set_cons_zero]
            rcases i_ with _ | _ | _ | _ | _ | _ | _ | _ | _ | _ | i_
            · obtain rfl := Option.some.inj ho_
              exact gw rfl (g_move _ (.pointer (some ⟨p7, 0, none⟩)) rfl ⟨rfl, hM⟩)
            · obtain rfl := Option.some.inj ho_
              exact gw rfl (g_fa 32 _ (wr.heap.size) (0) (1) 1 rfl (fa32_1 _ _ _) ⟨rfl, hM⟩)
            · obtain rfl := Option.some.inj ho_
              rcases j_ with _ | _ | _ | _ | j_
              · replace hM : Ms w wx [blk (wr.heap.size) (([.int .i64 (k), .int .i64 (i), .string (s)] : List Value)) 32, bf p7 (x) (slots) (d) (L), rb p10 ((x : Nat) : Int) slots (d) (L)] := hM
                exact gw rfl (g_ld1 3 _ (wr.heap.size) 1 _ rfl (ld3 _ _ _ _ ((hM.get 0 rfl).cell 1 _ rfl)) ⟨rfl, hM⟩)
              · exact absurd hh_ (by decide)
              · exact absurd hh_ (by decide)
              · exact absurd hh_ (by decide)
              · exact absurd hj_ (by simp)
            · exact absurd (by decide) hi_
            · obtain rfl := Option.some.inj ho_
              exact gw rfl (g_move _ (.pointer (some ⟨p10, 0, none⟩)) rfl ⟨rfl, hM⟩)
            · obtain rfl := Option.some.inj ho_
              exact gw rfl (g_fa 32 _ (wr.heap.size) (0) (1) 1 rfl (fa32_1 _ _ _) ⟨rfl, hM⟩)
            · obtain rfl := Option.some.inj ho_
              rcases j_ with _ | _ | _ | _ | j_
              · replace hM : Ms w wx [blk (wr.heap.size) (([.int .i64 (k), .int .i64 (i), .string (s)] : List Value)) 32, bf p7 (x) (slots) (d) (L), rb p10 ((x : Nat) : Int) slots (d) (L)] := hM
                exact gw rfl (g_ld1 3 _ (wr.heap.size) 1 _ rfl (ld3 _ _ _ _ ((hM.get 0 rfl).cell 1 _ rfl)) ⟨rfl, hM⟩)
              · replace hM : Ms w wx [row 9 1 (.slice π.1 ((ofI i L).length) π.2.1) ((ofI i L).length) ((ofI i L).map Value.string), bf p7 (x) (slots) (d) (notI i L), blk (wr.heap.size) (([.int .i64 (k), .int .i64 (i), .string (s)] : List Value)) 32, rb p10 ((x : Nat) : Int) slots (d) (L)] := hM
                exact gw rfl (g_ld1 3 _ (wr.heap.size) 1 _ rfl (ld3 _ _ _ _ ((hM.get 2 rfl).cell 1 _ rfl)) ⟨rfl, hM⟩)
              · exact absurd hh_ (by decide)
              · exact absurd hh_ (by decide)
              · exact absurd hj_ (by simp)
            · exact absurd (by decide) hi_
            · exact absurd (by decide) hi_
            · obtain rfl := Option.some.inj ho_
              exact gw rfl (g_unot 4 _ true rfl ⟨rfl, hM⟩)
            · simp at ho_
          · simp only [fullL, Act.put, List.setIfInBounds_toArray, List.set_cons_succ, List.set_cons_zero]
            rintro ⟨o55, p56, o57, p58⟩ w54 hM
            replace hM : Ms w w54 [row 9 1 (.slice o55 ((ofI i L).length) p56) ((ofI i L).length) ((ofI i L).map Value.string), row 9 1 (.slice o57 ((ofI i L).length) p58) ((ofI i L).length) ((ofI i L).map Value.string), rb p10 ((x : Nat) : Int) slots (d) (notI i L), bf p7 (x) (slots) (d) (notI i L), blk (wr.heap.size) (([.int .i64 (k), .int .i64 (i), .string (s)] : List Value)) 32] := hM
            refine hK53 _ _ ?_
            (try clear hK53 K53)
            refine wp_cond_false rfl ?_
            refine wp_skip ?_
            refine hK27 _ _ ?_
            (try clear hK27 K27)
            have hI2 : Shut (Do (notI i L) (d) (j + 1)) := ⟨do_take hI.out i⟩
            obtain ⟨L2, hL2⟩ : ∃ L2, L2 = notI i L := ⟨_, rfl⟩
            obtain ⟨d2, hd2⟩ : ∃ d2, d2 = d := ⟨_, rfl⟩
            have h9 := ((hM.up 2 rfl).up 3 rfl)
            have h10 : Ms w w54 [bf p7 (x) (slots) (d2) (L2), rb p10 ((x : Nat) : Int) slots (d2) (L2), row 9 1 (.slice o55 ((ofI i L).length) p56) ((ofI i L).length) ((ofI i L).map Value.string), row 9 1 (.slice o57 ((ofI i L).length) p58) ((ofI i L).length) ((ofI i L).map Value.string), blk (wr.heap.size) (([.int .i64 (k), .int .i64 (i), .string (s)] : List Value)) 32] := by rw [hL2, hd2]; exact h9
            rw [← hL2, ← hd2] at hI2
            clear hL2 hd2 h9 hM
            have hM := h10
            clear h10
            have hle2 := hI2.out.le
            refine wp_seq_k (fun K59 hK59 => ?_)
            refine wl_region ?_
            refine wl_give rfl (g_move _ (.pointer (some ⟨p7, 0, none⟩)) rfl ?_)
            (try simp only [Act.put, List.setIfInBounds_toArray, List.set_cons_zero, List.set_cons_succ])
            refine wl_give rfl (g_call 21 _ _ [.pointer (some ⟨p7, 0, none⟩)] (kf21 _ _) rfl ((to_row (ivals_any hM (by omega))).mono ?_))
            rintro e w60 ⟨o61, k62, rfl, h_⟩
            refine ⟨_, rfl, ?_⟩
            replace hM : Ms w w60 [row 3 1 (.slice o61 ((ivs (L2)).length) k62) ((ivs (L2)).length) ((ivs (L2)).map encZ), bf p7 (x) (slots) (d2) (L2), rb p10 ((x : Nat) : Int) slots (d2) (L2), row 9 1 (.slice o55 ((ofI i L).length) p56) ((ofI i L).length) ((ofI i L).map Value.string), row 9 1 (.slice o57 ((ofI i L).length) p58) ((ofI i L).length) ((ofI i L).map Value.string), blk (wr.heap.size) (([.int .i64 (k), .int .i64 (i), .string (s)] : List Value)) 32] := h_
            clear h_
            (try simp only [Act.put, List.setIfInBounds_toArray, List.set_cons_zero, List.set_cons_succ])
            refine wl_give rfl (g_move _ (.pointer (some ⟨p10, 0, none⟩)) rfl ?_)
            (try simp only [Act.put, List.setIfInBounds_toArray, List.set_cons_zero, List.set_cons_succ])
            refine wl_give rfl (g_call 22 _ _ [.pointer (some ⟨p10, 0, none⟩)] (kf22 _ _) rfl ((to_row (rivals_any (show Ms w w60 [rb p10 ((x : Nat) : Int) slots (d2) (L2), row 3 1 (.slice o61 ((ivs (L2)).length) k62) ((ivs (L2)).length) ((ivs (L2)).map encZ), bf p7 (x) (slots) (d2) (L2), row 9 1 (.slice o55 ((ofI i L).length) p56) ((ofI i L).length) ((ofI i L).map Value.string), row 9 1 (.slice o57 ((ofI i L).length) p58) ((ofI i L).length) ((ofI i L).map Value.string), blk (wr.heap.size) (([.int .i64 (k), .int .i64 (i), .string (s)] : List Value)) 32] from (hM.up 2 rfl)) (by omega))).mono ?_))
            rintro e w63 ⟨o64, k65, rfl, h_⟩
            refine ⟨_, rfl, ?_⟩
            replace hM : Ms w w63 [row 3 1 (.slice o64 ((ivs (L2)).length) k65) ((ivs (L2)).length) ((ivs (L2)).map encZ), rb p10 ((x : Nat) : Int) slots (d2) (L2), row 3 1 (.slice o61 ((ivs (L2)).length) k62) ((ivs (L2)).length) ((ivs (L2)).map encZ), bf p7 (x) (slots) (d2) (L2), row 9 1 (.slice o55 ((ofI i L).length) p56) ((ofI i L).length) ((ofI i L).map Value.string), row 9 1 (.slice o57 ((ofI i L).length) p58) ((ofI i L).length) ((ofI i L).map Value.string), blk (wr.heap.size) (([.int .i64 (k), .int .i64 (i), .string (s)] : List Value)) 32] := h_
            clear h_
            (try simp only [Act.put, List.setIfInBounds_toArray, List.set_cons_zero, List.set_cons_succ])
            refine wl_give rfl (g_assign _ (.slice o61 ((ivs (L2)).length) (k62)) rfl ?_)
            (try simp only [Act.put, List.setIfInBounds_toArray, List.set_cons_zero, List.set_cons_succ])
            refine wl_give rfl (g_assign _ (.slice o64 ((ivs (L2)).length) (k65)) rfl ?_)
            (try simp only [Act.put, List.setIfInBounds_toArray, List.set_cons_zero, List.set_cons_succ])
            refine wl_nil ?_
            refine hK59 _ _ ?_
            (try clear hK59 K59)
            refine wp_seq_k (fun K66 hK66 => ?_)
            obtain ⟨ao2, cap2, h9⟩ := rb_cut (hM.up 1 rfl)
            have hM : Ms w w63 [blk (p10) ([.int .i64 (((x : Nat) : Int)), .int .i64 (slots), .int .i64 (d2), .slice ao2 ((L2).length) (cap2)]) 44, row 64 2 (.slice ao2 (L2).length cap2) ((L2).length) (tcs (L2)), row 3 1 (.slice o64 ((ivs (L2)).length) k65) ((ivs (L2)).length) ((ivs (L2)).map encZ), row 3 1 (.slice o61 ((ivs (L2)).length) k62) ((ivs (L2)).length) ((ivs (L2)).map encZ), bf p7 (x) (slots) (d2) (L2), row 9 1 (.slice o55 ((ofI i L).length) p56) ((ofI i L).length) ((ofI i L).map Value.string), row 9 1 (.slice o57 ((ofI i L).length) p58) ((ofI i L).length) ((ofI i L).map Value.string), blk (wr.heap.size) (([.int .i64 (k), .int .i64 (i), .string (s)] : List Value)) 32] := h9
            clear h9
            refine wp_seq_k (fun K67 hK67 => ?_)
            (try simp only [List.append_eq, List.cons_append, List.nil_append])
            refine wp_region_steps (by kernel_rfl) (by kernel_rfl) [36] [0, 0, 0, 0, 0, 0, 0, 0, 0, 0, 0, 0, 0, 0, 0, 0, 0, 0, 0, 0, 0, 0, 0, 0, 0, 0, 0, 0, 0, 0, 0, 0, 0, 0, 0, 0, 0, 1, 1] [1, 1, 1, 1, 1, 1, 1, 1, 1, 1, 1, 1, 1, 1, 1, 1, 1, 1, 1, 1, 1, 1, 1, 1, 0, 1, 1, 1, 1, 1, 0, 0, 1, 0, 1, 0, 1, 1, 1] (by kernel_rfl) (Pm := Unit) (fun π => [.slice o61 ((ivs (L2)).length) (k62), .int .i64 ((((ivs (L2)).length : Nat) : Int)), .slice o64 ((ivs (L2)).length) (k65), .int .i64 ((((ivs (L2)).length : Nat) : Int)), .bool false, .bool false, .pointer (some ⟨p7, 0, none⟩), .int .i64 ((((L2).length : Nat) : Int)), .pointer (some ⟨p10, 0, none⟩), .pointer (some ⟨p10, 0, none⟩), .pointer (some ⟨p10, 3, none⟩), .slice ao2 ((L2).length) (cap2), .int .i64 ((((L2).length : Nat) : Int)), .bool false, .bool false, .bool false, .pointer (some ⟨p7, 0, none⟩), .int .i64 (d2), .pointer (some ⟨p10, 0, none⟩), .pointer (some ⟨p10, 0, none⟩), .pointer (some ⟨p10, 2, none⟩), .int .i64 (d2), .bool false, .bool false, .bool false, .pointer (some ⟨p7, 0, none⟩), .pointer (some ⟨wr.heap.size, 1, none⟩), .int .i64 (i), .pointer (some ⟨wr.heap.size, 2, none⟩), .string (s), .bool (hasT i s (L2)), .pointer (some ⟨p10, 0, none⟩), .pointer (some ⟨wr.heap.size, 1, none⟩), .int .i64 (i), .pointer (some ⟨wr.heap.size, 2, none⟩), .string (s), .bool (hasT i s (L2)), .bool false, .bool false]) (fun _ => by rfl) (fun j_ π wx => match j_ with | 0 => Ms w wx [blk (p10) ([.int .i64 (((x : Nat) : Int)), .int .i64 (slots), .int .i64 (d2), .slice ao2 ((L2).length) (cap2)]) 44, row 64 2 (.slice ao2 (L2).length cap2) ((L2).length) (tcs (L2)), row 3 1 (.slice o64 ((ivs (L2)).length) k65) ((ivs (L2)).length) ((ivs (L2)).map encZ), row 3 1 (.slice o61 ((ivs (L2)).length) k62) ((ivs (L2)).length) ((ivs (L2)).map encZ), bf p7 (x) (slots) (d2) (L2), row 9 1 (.slice o55 ((ofI i L).length) p56) ((ofI i L).length) ((ofI i L).map Value.string), row 9 1 (.slice o57 ((ofI i L).length) p58) ((ofI i L).length) ((ofI i L).map Value.string), blk (wr.heap.size) (([.int .i64 (k), .int .i64 (i), .string (s)] : List Value)) 32] | _ => Ms w wx [blk (p10) ([.int .i64 (((x : Nat) : Int)), .int .i64 (slots), .int .i64 (d2), .slice ao2 ((L2).length) (cap2)]) 44, row 64 2 (.slice ao2 (L2).length cap2) ((L2).length) (tcs (L2)), row 3 1 (.slice o64 ((ivs (L2)).length) k65) ((ivs (L2)).length) ((ivs (L2)).map encZ), row 3 1 (.slice o61 ((ivs (L2)).length) k62) ((ivs (L2)).length) ((ivs (L2)).map encZ), bf p7 (x) (slots) (d2) (L2), row 9 1 (.slice o55 ((ofI i L).length) p56) ((ofI i L).length) ((ofI i L).map Value.string), row 9 1 (.slice o57 ((ofI i L).length) p58) ((ofI i L).length) ((ofI i L).map Value.string), blk (wr.heap.size) (([.int .i64 (k), .int .i64 (i), .string (s)] : List Value)) 32]) () hM.drew ?_ ?_ ?_
            · intro j_ k_ o_ hj_ ho_ π wx hM
              rcases j_ with _ | j_
              · obtain rfl := Option.some.inj hj_
                obtain rfl := Option.some.inj ho_
                simp only [fullL, Act.put, List.setIfInBounds_toArray, List.set_cons_succ, List.set_cons_zero]
                replace hM : Ms w wx [blk (p10) ([.int .i64 (((x : Nat) : Int)), .int .i64 (slots), .int .i64 (d2), .slice ao2 ((L2).length) (cap2)]) 44, row 64 2 (.slice ao2 (L2).length cap2) ((L2).length) (tcs (L2)), row 3 1 (.slice o64 ((ivs (L2)).length) k65) ((ivs (L2)).length) ((ivs (L2)).map encZ), row 3 1 (.slice o61 ((ivs (L2)).length) k62) ((ivs (L2)).length) ((ivs (L2)).map encZ), bf p7 (x) (slots) (d2) (L2), row 9 1 (.slice o55 ((ofI i L).length) p56) ((ofI i L).length) ((ofI i L).map Value.string), row 9 1 (.slice o57 ((ofI i L).length) p58) ((ofI i L).length) ((ofI i L).map Value.string), blk (wr.heap.size) (([.int .i64 (k), .int .i64 (i), .string (s)] : List Value)) 32] := hM
                exact gw rfl (g_call 26 _ _ [.pointer (some ⟨p10, 0, none⟩), .int .i64 (i), .string (s)] (kf26 _ _) rfl ((rhas_op (show Ms w wx [blk (p10) ([.int .i64 (((x : Nat) : Int)), .int .i64 (slots), .int .i64 (d2), .slice ao2 ((L2).length) (cap2)]) 44, row 64 2 (.slice ao2 (L2).length cap2) ((L2).length) (tcs (L2)), row 3 1 (.slice o64 ((ivs (L2)).length) k65) ((ivs (L2)).length) ((ivs (L2)).map encZ), row 3 1 (.slice o61 ((ivs (L2)).length) k62) ((ivs (L2)).length) ((ivs (L2)).map encZ), bf p7 (x) (slots) (d2) (L2), row 9 1 (.slice o55 ((ofI i L).length) p56) ((ofI i L).length) ((ofI i L).map Value.string), row 9 1 (.slice o57 ((ofI i L).length) p58) ((ofI i L).length) ((ofI i L).map Value.string), blk (wr.heap.size) (([.int .i64 (k), .int .i64 (i), .string (s)] : List Value)) 32] from ((hM.up 1 rfl).up 1 rfl)) (by omega)).mono (fun e w' ⟨h1_, h2_⟩ => ⟨_, h1_, ⟨(), rfl, (fun _ _ _ => by first | rfl | trivial), h2_⟩⟩)))
              · simp at hj_
            · intro i_ o_ ho_ hi_ j_ hd_ hh_ hj_ π wx hM
              simp only [fullL, Act.put, List.setIfInBounds_toArray, List.set_cons_succ, List.set_cons_zero]
              rcases i_ with _ | _ | _ | _ | _ | _ | _ | _ | _ | _ | _ | _ | _ | _ | _ | _ | _ | _ | _ | _ | _ | _ | _ | _ | _ | _ | _ | _ | _ | _ | _ | _ | _ | _ | _ | _ | _ | _ | _ | i_
              · obtain rfl := Option.some.inj ho_
                exact gw rfl (g_move _ (.slice o61 ((ivs (L2)).length) (k62)) rfl ⟨rfl, hM⟩)
              · obtain rfl := Option.some.inj ho_
                exact gw rfl (g_len _ 39 3 (o61) ((ivs (L2)).length) (k62) ((((ivs (L2)).length : Nat) : Int)) Try.underlying39 rfl rfl ⟨rfl, hM⟩)
              · obtain rfl := Option.some.inj ho_
                exact gw rfl (g_move _ (.slice o64 ((ivs (L2)).length) (k65)) rfl ⟨rfl, hM⟩)
              · obtain rfl := Option.some.inj ho_
                exact gw rfl (g_len _ 39 3 (o64) ((ivs (L2)).length) (k65) ((((ivs (L2)).length : Nat) : Int)) Try.underlying39 rfl rfl ⟨rfl, hM⟩)
              · obtain rfl := Option.some.inj ho_
                exact gw rfl (g_ine 3 _ _ .i64 ((((ivs (L2)).length : Nat) : Int)) ((((ivs (L2)).length : Nat) : Int)) false rfl rfl (decide_eq_false (fun h => h rfl)) ⟨rfl, hM⟩)
              · obtain rfl := Option.some.inj ho_
                exact gw rfl (g_move _ (.bool false) rfl ⟨rfl, hM⟩)
              · obtain rfl := Option.some.inj ho_
                exact gw rfl (g_move _ (.pointer (some ⟨p7, 0, none⟩)) rfl ⟨rfl, hM⟩)
              · obtain rfl := Option.some.inj ho_
                rcases j_ with _ | _ | j_
                · replace hM : Ms w wx [blk (p10) ([.int .i64 (((x : Nat) : Int)), .int .i64 (slots), .int .i64 (d2), .slice ao2 ((L2).length) (cap2)]) 44, row 64 2 (.slice ao2 (L2).length cap2) ((L2).length) (tcs (L2)), row 3 1 (.slice o64 ((ivs (L2)).length) k65) ((ivs (L2)).length) ((ivs (L2)).map encZ), row 3 1 (.slice o61 ((ivs (L2)).length) k62) ((ivs (L2)).length) ((ivs (L2)).map encZ), bf p7 (x) (slots) (d2) (L2), row 9 1 (.slice o55 ((ofI i L).length) p56) ((ofI i L).length) ((ofI i L).map Value.string), row 9 1 (.slice o57 ((ofI i L).length) p58) ((ofI i L).length) ((ofI i L).map Value.string), blk (wr.heap.size) (([.int .i64 (k), .int .i64 (i), .string (s)] : List Value)) 32] := hM
                  exact gw rfl (g_call 23 _ _ [.pointer (some ⟨p7, 0, none⟩)] (kf23 _ _) rfl ((keep1 4 rfl (fun R_ h_ => size_v (n := (((L2).length : Nat) : Int)) h_ (by omega) (rfl)) hM).mono (fun _ _ ⟨h1_, h2_⟩ => ⟨_, h1_, rfl, h2_⟩)))
                · replace hM : Ms w wx [blk (p10) ([.int .i64 (((x : Nat) : Int)), .int .i64 (slots), .int .i64 (d2), .slice ao2 ((L2).length) (cap2)]) 44, row 64 2 (.slice ao2 (L2).length cap2) ((L2).length) (tcs (L2)), row 3 1 (.slice o64 ((ivs (L2)).length) k65) ((ivs (L2)).length) ((ivs (L2)).map encZ), row 3 1 (.slice o61 ((ivs (L2)).length) k62) ((ivs (L2)).length) ((ivs (L2)).map encZ), bf p7 (x) (slots) (d2) (L2), row 9 1 (.slice o55 ((ofI i L).length) p56) ((ofI i L).length) ((ofI i L).map Value.string), row 9 1 (.slice o57 ((ofI i L).length) p58) ((ofI i L).length) ((ofI i L).map Value.string), blk (wr.heap.size) (([.int .i64 (k), .int .i64 (i), .string (s)] : List Value)) 32] := hM
                  exact gw rfl (g_call 23 _ _ [.pointer (some ⟨p7, 0, none⟩)] (kf23 _ _) rfl ((keep1 4 rfl (fun R_ h_ => size_v (n := (((L2).length : Nat) : Int)) h_ (by omega) (rfl)) hM).mono (fun _ _ ⟨h1_, h2_⟩ => ⟨_, h1_, rfl, h2_⟩)))
                · exact absurd hj_ (by simp)
              · obtain rfl := Option.some.inj ho_
                exact gw rfl (g_move _ (.pointer (some ⟨p10, 0, none⟩)) rfl ⟨rfl, hM⟩)
              · obtain rfl := Option.some.inj ho_
                exact gw rfl (g_nil _ ⟨p10, 0, none⟩ rfl ⟨rfl, hM⟩)
              · obtain rfl := Option.some.inj ho_
                exact gw rfl (g_fa 44 _ (p10) (0) (3) 3 rfl (fa44_3 _ _ _) ⟨rfl, hM⟩)
              · obtain rfl := Option.some.inj ho_
                rcases j_ with _ | _ | j_
                · replace hM : Ms w wx [blk (p10) ([.int .i64 (((x : Nat) : Int)), .int .i64 (slots), .int .i64 (d2), .slice ao2 ((L2).length) (cap2)]) 44, row 64 2 (.slice ao2 (L2).length cap2) ((L2).length) (tcs (L2)), row 3 1 (.slice o64 ((ivs (L2)).length) k65) ((ivs (L2)).length) ((ivs (L2)).map encZ), row 3 1 (.slice o61 ((ivs (L2)).length) k62) ((ivs (L2)).length) ((ivs (L2)).map encZ), bf p7 (x) (slots) (d2) (L2), row 9 1 (.slice o55 ((ofI i L).length) p56) ((ofI i L).length) ((ofI i L).map Value.string), row 9 1 (.slice o57 ((ofI i L).length) p58) ((ofI i L).length) ((ofI i L).map Value.string), blk (wr.heap.size) (([.int .i64 (k), .int .i64 (i), .string (s)] : List Value)) 32] := hM
                  exact gw rfl (g_ld1 42 _ (p10) 3 _ rfl (ld42 _ _ _ _ ((hM.get 0 rfl).cell 3 _ rfl)) ⟨rfl, hM⟩)
                · replace hM : Ms w wx [blk (p10) ([.int .i64 (((x : Nat) : Int)), .int .i64 (slots), .int .i64 (d2), .slice ao2 ((L2).length) (cap2)]) 44, row 64 2 (.slice ao2 (L2).length cap2) ((L2).length) (tcs (L2)), row 3 1 (.slice o64 ((ivs (L2)).length) k65) ((ivs (L2)).length) ((ivs (L2)).map encZ), row 3 1 (.slice o61 ((ivs (L2)).length) k62) ((ivs (L2)).length) ((ivs (L2)).map encZ), bf p7 (x) (slots) (d2) (L2), row 9 1 (.slice o55 ((ofI i L).length) p56) ((ofI i L).length) ((ofI i L).map Value.string), row 9 1 (.slice o57 ((ofI i L).length) p58) ((ofI i L).length) ((ofI i L).map Value.string), blk (wr.heap.size) (([.int .i64 (k), .int .i64 (i), .string (s)] : List Value)) 32] := hM
                  exact gw rfl (g_ld1 42 _ (p10) 3 _ rfl (ld42 _ _ _ _ ((hM.get 0 rfl).cell 3 _ rfl)) ⟨rfl, hM⟩)
                · exact absurd hj_ (by simp)
              · obtain rfl := Option.some.inj ho_
                exact gw rfl (g_len _ 42 64 (ao2) ((L2).length) (cap2) ((((L2).length : Nat) : Int)) Try.underlying42 rfl rfl ⟨rfl, hM⟩)
              · obtain rfl := Option.some.inj ho_
                exact gw rfl (g_ine 3 _ _ .i64 ((((L2).length : Nat) : Int)) ((((L2).length : Nat) : Int)) false rfl rfl (decide_eq_false (fun h => h rfl)) ⟨rfl, hM⟩)
              · obtain rfl := Option.some.inj ho_
                exact gw rfl (g_pickf _ _ _ (.bool false) rfl rfl ⟨rfl, hM⟩)
              · obtain rfl := Option.some.inj ho_
                exact gw rfl (g_move _ (.bool false) rfl ⟨rfl, hM⟩)
              · obtain rfl := Option.some.inj ho_
                exact gw rfl (g_move _ (.pointer (some ⟨p7, 0, none⟩)) rfl ⟨rfl, hM⟩)
              · obtain rfl := Option.some.inj ho_
                rcases j_ with _ | _ | j_
                · replace hM : Ms w wx [blk (p10) ([.int .i64 (((x : Nat) : Int)), .int .i64 (slots), .int .i64 (d2), .slice ao2 ((L2).length) (cap2)]) 44, row 64 2 (.slice ao2 (L2).length cap2) ((L2).length) (tcs (L2)), row 3 1 (.slice o64 ((ivs (L2)).length) k65) ((ivs (L2)).length) ((ivs (L2)).map encZ), row 3 1 (.slice o61 ((ivs (L2)).length) k62) ((ivs (L2)).length) ((ivs (L2)).map encZ), bf p7 (x) (slots) (d2) (L2), row 9 1 (.slice o55 ((ofI i L).length) p56) ((ofI i L).length) ((ofI i L).map Value.string), row 9 1 (.slice o57 ((ofI i L).length) p58) ((ofI i L).length) ((ofI i L).map Value.string), blk (wr.heap.size) (([.int .i64 (k), .int .i64 (i), .string (s)] : List Value)) 32] := hM
                  exact gw rfl (g_call 24 _ _ [.pointer (some ⟨p7, 0, none⟩)] (kf24 _ _) rfl ((keep1 4 rfl (fun R_ h_ => dropped_any h_) hM).mono (fun _ _ ⟨h1_, h2_⟩ => ⟨_, h1_, rfl, h2_⟩)))
                · replace hM : Ms w wx [blk (p10) ([.int .i64 (((x : Nat) : Int)), .int .i64 (slots), .int .i64 (d2), .slice ao2 ((L2).length) (cap2)]) 44, row 64 2 (.slice ao2 (L2).length cap2) ((L2).length) (tcs (L2)), row 3 1 (.slice o64 ((ivs (L2)).length) k65) ((ivs (L2)).length) ((ivs (L2)).map encZ), row 3 1 (.slice o61 ((ivs (L2)).length) k62) ((ivs (L2)).length) ((ivs (L2)).map encZ), bf p7 (x) (slots) (d2) (L2), row 9 1 (.slice o55 ((ofI i L).length) p56) ((ofI i L).length) ((ofI i L).map Value.string), row 9 1 (.slice o57 ((ofI i L).length) p58) ((ofI i L).length) ((ofI i L).map Value.string), blk (wr.heap.size) (([.int .i64 (k), .int .i64 (i), .string (s)] : List Value)) 32] := hM
                  exact gw rfl (g_call 24 _ _ [.pointer (some ⟨p7, 0, none⟩)] (kf24 _ _) rfl ((keep1 4 rfl (fun R_ h_ => dropped_any h_) hM).mono (fun _ _ ⟨h1_, h2_⟩ => ⟨_, h1_, rfl, h2_⟩)))
                · exact absurd hj_ (by simp)
              · obtain rfl := Option.some.inj ho_
                exact gw rfl (g_move _ (.pointer (some ⟨p10, 0, none⟩)) rfl ⟨rfl, hM⟩)
              · obtain rfl := Option.some.inj ho_
                exact gw rfl (g_nil _ ⟨p10, 0, none⟩ rfl ⟨rfl, hM⟩)
              · obtain rfl := Option.some.inj ho_
                exact gw rfl (g_fa 44 _ (p10) (0) (2) 2 rfl (fa44_2 _ _ _) ⟨rfl, hM⟩)
              · obtain rfl := Option.some.inj ho_
                rcases j_ with _ | _ | j_
                · replace hM : Ms w wx [blk (p10) ([.int .i64 (((x : Nat) : Int)), .int .i64 (slots), .int .i64 (d2), .slice ao2 ((L2).length) (cap2)]) 44, row 64 2 (.slice ao2 (L2).length cap2) ((L2).length) (tcs (L2)), row 3 1 (.slice o64 ((ivs (L2)).length) k65) ((ivs (L2)).length) ((ivs (L2)).map encZ), row 3 1 (.slice o61 ((ivs (L2)).length) k62) ((ivs (L2)).length) ((ivs (L2)).map encZ), bf p7 (x) (slots) (d2) (L2), row 9 1 (.slice o55 ((ofI i L).length) p56) ((ofI i L).length) ((ofI i L).map Value.string), row 9 1 (.slice o57 ((ofI i L).length) p58) ((ofI i L).length) ((ofI i L).map Value.string), blk (wr.heap.size) (([.int .i64 (k), .int .i64 (i), .string (s)] : List Value)) 32] := hM
                  exact gw rfl (g_ld1 3 _ (p10) 2 _ rfl (ld3 _ _ _ _ ((hM.get 0 rfl).cell 2 _ rfl)) ⟨rfl, hM⟩)
                · replace hM : Ms w wx [blk (p10) ([.int .i64 (((x : Nat) : Int)), .int .i64 (slots), .int .i64 (d2), .slice ao2 ((L2).length) (cap2)]) 44, row 64 2 (.slice ao2 (L2).length cap2) ((L2).length) (tcs (L2)), row 3 1 (.slice o64 ((ivs (L2)).length) k65) ((ivs (L2)).length) ((ivs (L2)).map encZ), row 3 1 (.slice o61 ((ivs (L2)).length) k62) ((ivs (L2)).length) ((ivs (L2)).map encZ), bf p7 (x) (slots) (d2) (L2), row 9 1 (.slice o55 ((ofI i L).length) p56) ((ofI i L).length) ((ofI i L).map Value.string), row 9 1 (.slice o57 ((ofI i L).length) p58) ((ofI i L).length) ((ofI i L).map Value.string), blk (wr.heap.size) (([.int .i64 (k), .int .i64 (i), .string (s)] : List Value)) 32] := hM
                  exact gw rfl (g_ld1 3 _ (p10) 2 _ rfl (ld3 _ _ _ _ ((hM.get 0 rfl).cell 2 _ rfl)) ⟨rfl, hM⟩)
                · exact absurd hj_ (by simp)
              · obtain rfl := Option.some.inj ho_
                exact gw rfl (g_ine 3 _ _ .i64 (d2) (d2) false rfl rfl (decide_eq_false (fun h => h rfl)) ⟨rfl, hM⟩)
              · obtain rfl := Option.some.inj ho_
                exact gw rfl (g_pickf _ _ _ (.bool false) rfl rfl ⟨rfl, hM⟩)
              · obtain rfl := Option.some.inj ho_
                exact gw rfl (g_move _ (.bool false) rfl ⟨rfl, hM⟩)
              · obtain rfl := Option.some.inj ho_
                exact gw rfl (g_move _ (.pointer (some ⟨p7, 0, none⟩)) rfl ⟨rfl, hM⟩)
              · obtain rfl := Option.some.inj ho_
                exact gw rfl (g_fa 32 _ (wr.heap.size) (0) (1) 1 rfl (fa32_1 _ _ _) ⟨rfl, hM⟩)
              · obtain rfl := Option.some.inj ho_
                rcases j_ with _ | _ | j_
                · replace hM : Ms w wx [blk (p10) ([.int .i64 (((x : Nat) : Int)), .int .i64 (slots), .int .i64 (d2), .slice ao2 ((L2).length) (cap2)]) 44, row 64 2 (.slice ao2 (L2).length cap2) ((L2).length) (tcs (L2)), row 3 1 (.slice o64 ((ivs (L2)).length) k65) ((ivs (L2)).length) ((ivs (L2)).map encZ), row 3 1 (.slice o61 ((ivs (L2)).length) k62) ((ivs (L2)).length) ((ivs (L2)).map encZ), bf p7 (x) (slots) (d2) (L2), row 9 1 (.slice o55 ((ofI i L).length) p56) ((ofI i L).length) ((ofI i L).map Value.string), row 9 1 (.slice o57 ((ofI i L).length) p58) ((ofI i L).length) ((ofI i L).map Value.string), blk (wr.heap.size) (([.int .i64 (k), .int .i64 (i), .string (s)] : List Value)) 32] := hM
                  exact gw rfl (g_ld1 3 _ (wr.heap.size) 1 _ rfl (ld3 _ _ _ _ ((hM.get 7 rfl).cell 1 _ rfl)) ⟨rfl, hM⟩)
                · replace hM : Ms w wx [blk (p10) ([.int .i64 (((x : Nat) : Int)), .int .i64 (slots), .int .i64 (d2), .slice ao2 ((L2).length) (cap2)]) 44, row 64 2 (.slice ao2 (L2).length cap2) ((L2).length) (tcs (L2)), row 3 1 (.slice o64 ((ivs (L2)).length) k65) ((ivs (L2)).length) ((ivs (L2)).map encZ), row 3 1 (.slice o61 ((ivs (L2)).length) k62) ((ivs (L2)).length) ((ivs (L2)).map encZ), bf p7 (x) (slots) (d2) (L2), row 9 1 (.slice o55 ((ofI i L).length) p56) ((ofI i L).length) ((ofI i L).map Value.string), row 9 1 (.slice o57 ((ofI i L).length) p58) ((ofI i L).length) ((ofI i L).map Value.string), blk (wr.heap.size) (([.int .i64 (k), .int .i64 (i), .string (s)] : List Value)) 32] := hM
                  exact gw rfl (g_ld1 3 _ (wr.heap.size) 1 _ rfl (ld3 _ _ _ _ ((hM.get 7 rfl).cell 1 _ rfl)) ⟨rfl, hM⟩)
                · exact absurd hj_ (by simp)
              · obtain rfl := Option.some.inj ho_
                exact gw rfl (g_fa 32 _ (wr.heap.size) (0) (2) 2 rfl (fa32_2 _ _ _) ⟨rfl, hM⟩)
              · obtain rfl := Option.some.inj ho_
                rcases j_ with _ | _ | j_
                · replace hM : Ms w wx [blk (p10) ([.int .i64 (((x : Nat) : Int)), .int .i64 (slots), .int .i64 (d2), .slice ao2 ((L2).length) (cap2)]) 44, row 64 2 (.slice ao2 (L2).length cap2) ((L2).length) (tcs (L2)), row 3 1 (.slice o64 ((ivs (L2)).length) k65) ((ivs (L2)).length) ((ivs (L2)).map encZ), row 3 1 (.slice o61 ((ivs (L2)).length) k62) ((ivs (L2)).length) ((ivs (L2)).map encZ), bf p7 (x) (slots) (d2) (L2), row 9 1 (.slice o55 ((ofI i L).length) p56) ((ofI i L).length) ((ofI i L).map Value.string), row 9 1 (.slice o57 ((ofI i L).length) p58) ((ofI i L).length) ((ofI i L).map Value.string), blk (wr.heap.size) (([.int .i64 (k), .int .i64 (i), .string (s)] : List Value)) 32] := hM
                  exact gw rfl (g_ld1 9 _ (wr.heap.size) 2 _ rfl (ld9 _ _ _ _ ((hM.get 7 rfl).cell 2 _ rfl)) ⟨rfl, hM⟩)
                · replace hM : Ms w wx [blk (p10) ([.int .i64 (((x : Nat) : Int)), .int .i64 (slots), .int .i64 (d2), .slice ao2 ((L2).length) (cap2)]) 44, row 64 2 (.slice ao2 (L2).length cap2) ((L2).length) (tcs (L2)), row 3 1 (.slice o64 ((ivs (L2)).length) k65) ((ivs (L2)).length) ((ivs (L2)).map encZ), row 3 1 (.slice o61 ((ivs (L2)).length) k62) ((ivs (L2)).length) ((ivs (L2)).map encZ), bf p7 (x) (slots) (d2) (L2), row 9 1 (.slice o55 ((ofI i L).length) p56) ((ofI i L).length) ((ofI i L).map Value.string), row 9 1 (.slice o57 ((ofI i L).length) p58) ((ofI i L).length) ((ofI i L).map Value.string), blk (wr.heap.size) (([.int .i64 (k), .int .i64 (i), .string (s)] : List Value)) 32] := hM
                  exact gw rfl (g_ld1 9 _ (wr.heap.size) 2 _ rfl (ld9 _ _ _ _ ((hM.get 7 rfl).cell 2 _ rfl)) ⟨rfl, hM⟩)
                · exact absurd hj_ (by simp)
              · obtain rfl := Option.some.inj ho_
                rcases j_ with _ | _ | j_
                · replace hM : Ms w wx [blk (p10) ([.int .i64 (((x : Nat) : Int)), .int .i64 (slots), .int .i64 (d2), .slice ao2 ((L2).length) (cap2)]) 44, row 64 2 (.slice ao2 (L2).length cap2) ((L2).length) (tcs (L2)), row 3 1 (.slice o64 ((ivs (L2)).length) k65) ((ivs (L2)).length) ((ivs (L2)).map encZ), row 3 1 (.slice o61 ((ivs (L2)).length) k62) ((ivs (L2)).length) ((ivs (L2)).map encZ), bf p7 (x) (slots) (d2) (L2), row 9 1 (.slice o55 ((ofI i L).length) p56) ((ofI i L).length) ((ofI i L).map Value.string), row 9 1 (.slice o57 ((ofI i L).length) p58) ((ofI i L).length) ((ofI i L).map Value.string), blk (wr.heap.size) (([.int .i64 (k), .int .i64 (i), .string (s)] : List Value)) 32] := hM
                  exact gw rfl (g_call 25 _ _ [.pointer (some ⟨p7, 0, none⟩), .int .i64 (i), .string (s)] (kf25 _ _) rfl ((keep1 4 rfl (fun R_ h_ => has_v (r := hasT i s (L2)) h_ (by omega) rfl) hM).mono (fun _ _ ⟨h1_, h2_⟩ => ⟨_, h1_, rfl, h2_⟩)))
                · exact absurd hh_ (by decide)
                · exact absurd hj_ (by simp)
              · obtain rfl := Option.some.inj ho_
                exact gw rfl (g_move _ (.pointer (some ⟨p10, 0, none⟩)) rfl ⟨rfl, hM⟩)
              · obtain rfl := Option.some.inj ho_
                exact gw rfl (g_fa 32 _ (wr.heap.size) (0) (1) 1 rfl (fa32_1 _ _ _) ⟨rfl, hM⟩)
              · obtain rfl := Option.some.inj ho_
                rcases j_ with _ | _ | j_
                · replace hM : Ms w wx [blk (p10) ([.int .i64 (((x : Nat) : Int)), .int .i64 (slots), .int .i64 (d2), .slice ao2 ((L2).length) (cap2)]) 44, row 64 2 (.slice ao2 (L2).length cap2) ((L2).length) (tcs (L2)), row 3 1 (.slice o64 ((ivs (L2)).length) k65) ((ivs (L2)).length) ((ivs (L2)).map encZ), row 3 1 (.slice o61 ((ivs (L2)).length) k62) ((ivs (L2)).length) ((ivs (L2)).map encZ), bf p7 (x) (slots) (d2) (L2), row 9 1 (.slice o55 ((ofI i L).length) p56) ((ofI i L).length) ((ofI i L).map Value.string), row 9 1 (.slice o57 ((ofI i L).length) p58) ((ofI i L).length) ((ofI i L).map Value.string), blk (wr.heap.size) (([.int .i64 (k), .int .i64 (i), .string (s)] : List Value)) 32] := hM
                  exact gw rfl (g_ld1 3 _ (wr.heap.size) 1 _ rfl (ld3 _ _ _ _ ((hM.get 7 rfl).cell 1 _ rfl)) ⟨rfl, hM⟩)
                · exact absurd hh_ (by decide)
                · exact absurd hj_ (by simp)
              · obtain rfl := Option.some.inj ho_
                exact gw rfl (g_fa 32 _ (wr.heap.size) (0) (2) 2 rfl (fa32_2 _ _ _) ⟨rfl, hM⟩)
              · obtain rfl := Option.some.inj ho_
                rcases j_ with _ | _ | j_
                · replace hM : Ms w wx [blk (p10) ([.int .i64 (((x : Nat) : Int)), .int .i64 (slots), .int .i64 (d2), .slice ao2 ((L2).length) (cap2)]) 44, row 64 2 (.slice ao2 (L2).length cap2) ((L2).length) (tcs (L2)), row 3 1 (.slice o64 ((ivs (L2)).length) k65) ((ivs (L2)).length) ((ivs (L2)).map encZ), row 3 1 (.slice o61 ((ivs (L2)).length) k62) ((ivs (L2)).length) ((ivs (L2)).map encZ), bf p7 (x) (slots) (d2) (L2), row 9 1 (.slice o55 ((ofI i L).length) p56) ((ofI i L).length) ((ofI i L).map Value.string), row 9 1 (.slice o57 ((ofI i L).length) p58) ((ofI i L).length) ((ofI i L).map Value.string), blk (wr.heap.size) (([.int .i64 (k), .int .i64 (i), .string (s)] : List Value)) 32] := hM
                  exact gw rfl (g_ld1 9 _ (wr.heap.size) 2 _ rfl (ld9 _ _ _ _ ((hM.get 7 rfl).cell 2 _ rfl)) ⟨rfl, hM⟩)
                · exact absurd hh_ (by decide)
                · exact absurd hj_ (by simp)
              · exact absurd (by decide) hi_
              · obtain rfl := Option.some.inj ho_
                exact gw rfl (g_bne _ _ (hasT i s (L2)) (hasT i s (L2)) false rfl rfl (by simp) ⟨rfl, hM⟩)
              · obtain rfl := Option.some.inj ho_
                exact gw rfl (g_pickf _ _ _ (.bool false) rfl rfl ⟨rfl, hM⟩)
              · simp at ho_
            · simp only [fullL, Act.put, List.setIfInBounds_toArray, List.set_cons_succ, List.set_cons_zero]
              rintro ⟨⟩ w68 hM
              replace hM : Ms w w68 [blk (p10) ([.int .i64 (((x : Nat) : Int)), .int .i64 (slots), .int .i64 (d2), .slice ao2 ((L2).length) (cap2)]) 44, row 64 2 (.slice ao2 (L2).length cap2) ((L2).length) (tcs (L2)), row 3 1 (.slice o64 ((ivs (L2)).length) k65) ((ivs (L2)).length) ((ivs (L2)).map encZ), row 3 1 (.slice o61 ((ivs (L2)).length) k62) ((ivs (L2)).length) ((ivs (L2)).map encZ), bf p7 (x) (slots) (d2) (L2), row 9 1 (.slice o55 ((ofI i L).length) p56) ((ofI i L).length) ((ofI i L).map Value.string), row 9 1 (.slice o57 ((ofI i L).length) p58) ((ofI i L).length) ((ofI i L).map Value.string), blk (wr.heap.size) (([.int .i64 (k), .int .i64 (i), .string (s)] : List Value)) 32] := hM
              refine hK67 _ _ ?_
              (try clear hK67 K67)
              refine wp_cond_false rfl ?_
              refine wp_skip ?_
              refine hK66 _ _ ?_
              (try clear hK66 K66)
              refine wp_seq_k (fun K69 hK69 => ?_)
              refine wl_region ?_
              refine wl_give rfl (g_move _ (.slice o61 ((ivs (L2)).length) (k62)) rfl ?_)
              (try simp only [Act.put, List.setIfInBounds_toArray, List.set_cons_zero, List.set_cons_succ])
              refine wl_give rfl (g_len _ 39 3 (o61) ((ivs (L2)).length) (k62) ((((ivs (L2)).length : Nat) : Int)) Try.underlying39 rfl rfl ?_)
              (try simp only [Act.put, List.setIfInBounds_toArray, List.set_cons_zero, List.set_cons_succ])
              refine wl_give rfl (g_move _ (.int .i64 (0)) rfl ?_)
              (try simp only [Act.put, List.setIfInBounds_toArray, List.set_cons_zero, List.set_cons_succ])
              refine wl_nil ?_
              refine hK69 _ _ ?_
              (try clear hK69 K69)
              refine wp_block ?_
              have h9 := ((((((((hM.up 7 rfl).up 7 rfl).up 7 rfl).up 7 rfl).up 5 rfl).up 5 rfl).up 6 rfl).up 7 rfl)
              have hivl : (ivs (L2)).length ≤ 101 := Nat.le_trans (ivs_le _) (by omega)
              refine wp_rounds (fun m2 st wr2 => ∃ (e : Nat) (u : Nat → Value), st = ⟨#[.int .i64 (((x : Nat) : Int)), .int .i64 (slots), .slice (some ⟨b, o, none⟩) (n) (cap), undef, undef, undef, .bool false, .pointer (some ⟨p7, 0, none⟩), .int .i64 (0), .pointer (some ⟨p10, 0, none⟩), .int .i64 (0), .int .i64 (((j : Nat) : Int)), .pointer (some ⟨wr.heap.size, 0, none⟩), .slice o61 ((ivs (L2)).length) (k62), .slice o64 ((ivs (L2)).length) (k65), u 15, t 16, t 17, t 18, t 19, t 20, t 21, t 22, t 23, t 24, t 25, t 26, t 27, t 28, t 29, t 30, t 31, t 32, t 33, t 34, t 35, t 36, t 37, t 38, t 39, .int .i64 (((j : Nat) : Int)), .slice (some ⟨b, o, none⟩) (n) (cap), .int .i64 (((n : Nat) : Int)), .bool true, .bool true, .int .i64 (((j : Nat) : Int)), .bool true, .bool true, .bool true, .pointer (some ⟨p10, 0, none⟩), .bool true, .bool true, t 52, t 53, .slice (some ⟨b, o, none⟩) (n) (cap), .int .i64 (((j : Nat) : Int)), .pointer (some ⟨b, o + j * 3, none⟩), .agg (([.int .i64 (k), .int .i64 (i), .string (s)] : List Value)).toArray, .agg (([.int .i64 (k), .int .i64 (i), .string (s)] : List Value)).toArray, .bool false, .pointer (some ⟨wr.heap.size, 0, none⟩), .int .i64 (k), .bool false, .bool false, t 64, t 65, t 66, t 67, t 68, t 69, t 70, t 71, t 72, t 73, t 74, t 75, t 76, .bool true, .bool true, .pointer (some ⟨p7, 0, none⟩), .pointer (some ⟨wr.heap.size, 1, none⟩), .int .i64 (i), .slice o55 ((ofI i L).length) (p56), .pointer (some ⟨p10, 0, none⟩), .pointer (some ⟨wr.heap.size, 1, none⟩), .int .i64 (i), .slice o57 ((ofI i L).length) (p58), .bool true, .bool false, t 89, t 90, t 91, t 92, t 93, t 94, t 95, t 96, t 97, t 98, t 99, .pointer (some ⟨p7, 0, none⟩), .slice o61 ((ivs (L2)).length) (k62), .pointer (some ⟨p10, 0, none⟩), .slice o64 ((ivs (L2)).length) (k65), .slice o61 ((ivs (L2)).length) (k62), .int .i64 ((((ivs (L2)).length : Nat) : Int)), .slice o64 ((ivs (L2)).length) (k65), .int .i64 ((((ivs (L2)).length : Nat) : Int)), .bool false, .bool false, .pointer (some ⟨p7, 0, none⟩), .int .i64 ((((L2).length : Nat) : Int)), .pointer (some ⟨p10, 0, none⟩), .pointer (some ⟨p10, 0, none⟩), .pointer (some ⟨p10, 3, none⟩), .slice ao2 ((L2).length) (cap2), .int .i64 ((((L2).length : Nat) : Int)), .bool false, .bool false, .bool false, .pointer (some ⟨p7, 0, none⟩), .int .i64 (d2), .pointer (some ⟨p10, 0, none⟩), .pointer (some ⟨p10, 0, none⟩), .pointer (some ⟨p10, 2, none⟩), .int .i64 (d2), .bool false, .bool false, .bool false, .pointer (some ⟨p7, 0, none⟩), .pointer (some ⟨wr.heap.size, 1, none⟩), .int .i64 (i), .pointer (some ⟨wr.heap.size, 2, none⟩), .string (s), .bool (hasT i s (L2)), .pointer (some ⟨p10, 0, none⟩), .pointer (some ⟨wr.heap.size, 1, none⟩), .int .i64 (i), .pointer (some ⟨wr.heap.size, 2, none⟩), .string (s), .bool (hasT i s (L2)), .bool false, .bool false, .slice o61 ((ivs (L2)).length) (k62), .int .i64 ((((ivs (L2)).length : Nat) : Int)), .int .i64 ((e : Nat) : Int), u 146, u 147, u 148, u 149, u 150, u 151, u 152, u 153, u 154, u 155, u 156, u 157], []⟩ ∧ e + m2 = (ivs (L2)).length ∧ Ms w wr2 [row 3 1 (.slice o61 ((ivs (L2)).length) k62) ((ivs (L2)).length) ((ivs (L2)).map encZ), row 3 1 (.slice o64 ((ivs (L2)).length) k65) ((ivs (L2)).length) ((ivs (L2)).map encZ), blk (p10) ([.int .i64 (((x : Nat) : Int)), .int .i64 (slots), .int .i64 (d2), .slice ao2 ((L2).length) (cap2)]) 44, row 64 2 (.slice ao2 (L2).length cap2) ((L2).length) (tcs (L2)), bf p7 (x) (slots) (d2) (L2), row 9 1 (.slice o55 ((ofI i L).length) p56) ((ofI i L).length) ((ofI i L).map Value.string), row 9 1 (.slice o57 ((ofI i L).length) p58) ((ofI i L).length) ((ofI i L).map Value.string), blk (wr.heap.size) (([.int .i64 (k), .int .i64 (i), .string (s)] : List Value)) 32]) _ ⟨0, (tl [.int .i64 (((x : Nat) : Int)), .int .i64 (slots), .slice (some ⟨b, o, none⟩) (n) (cap), undef, undef, undef, .bool false, .pointer (some ⟨p7, 0, none⟩), .int .i64 (0), .pointer (some ⟨p10, 0, none⟩), .int .i64 (0), .int .i64 (((j : Nat) : Int)), .pointer (some ⟨wr.heap.size, 0, none⟩), .slice o61 ((ivs (L2)).length) (k62), .slice o64 ((ivs (L2)).length) (k65), t 15, t 16, t 17, t 18, t 19, t 20, t 21, t 22, t 23, t 24, t 25, t 26, t 27, t 28, t 29, t 30, t 31, t 32, t 33, t 34, t 35, t 36, t 37, t 38, t 39, .int .i64 (((j : Nat) : Int)), .slice (some ⟨b, o, none⟩) (n) (cap), .int .i64 (((n : Nat) : Int)), .bool true, .bool true, .int .i64 (((j : Nat) : Int)), .bool true, .bool true, .bool true, .pointer (some ⟨p10, 0, none⟩), .bool true, .bool true, t 52, t 53, .slice (some ⟨b, o, none⟩) (n) (cap), .int .i64 (((j : Nat) : Int)), .pointer (some ⟨b, o + j * 3, none⟩), .agg (([.int .i64 (k), .int .i64 (i), .string (s)] : List Value)).toArray, .agg (([.int .i64 (k), .int .i64 (i), .string (s)] : List Value)).toArray, .bool false, .pointer (some ⟨wr.heap.size, 0, none⟩), .int .i64 (k), .bool false, .bool false, t 64, t 65, t 66, t 67, t 68, t 69, t 70, t 71, t 72, t 73, t 74, t 75, t 76, .bool true, .bool true, .pointer (some ⟨p7, 0, none⟩), .pointer (some ⟨wr.heap.size, 1, none⟩), .int .i64 (i), .slice o55 ((ofI i L).length) (p56), .pointer (some ⟨p10, 0, none⟩), .pointer (some ⟨wr.heap.size, 1, none⟩), .int .i64 (i), .slice o57 ((ofI i L).length) (p58), .bool true, .bool false, t 89, t 90, t 91, t 92, t 93, t 94, t 95, t 96, t 97, t 98, t 99, .pointer (some ⟨p7, 0, none⟩), .slice o61 ((ivs (L2)).length) (k62), .pointer (some ⟨p10, 0, none⟩), .slice o64 ((ivs (L2)).length) (k65), .slice o61 ((ivs (L2)).length) (k62), .int .i64 ((((ivs (L2)).length : Nat) : Int)), .slice o64 ((ivs (L2)).length) (k65), .int .i64 ((((ivs (L2)).length : Nat) : Int)), .bool false, .bool false, .pointer (some ⟨p7, 0, none⟩), .int .i64 ((((L2).length : Nat) : Int)), .pointer (some ⟨p10, 0, none⟩), .pointer (some ⟨p10, 0, none⟩), .pointer (some ⟨p10, 3, none⟩), .slice ao2 ((L2).length) (cap2), .int .i64 ((((L2).length : Nat) : Int)), .bool false, .bool false, .bool false, .pointer (some ⟨p7, 0, none⟩), .int .i64 (d2), .pointer (some ⟨p10, 0, none⟩), .pointer (some ⟨p10, 0, none⟩), .pointer (some ⟨p10, 2, none⟩), .int .i64 (d2), .bool false, .bool false, .bool false, .pointer (some ⟨p7, 0, none⟩), .pointer (some ⟨wr.heap.size, 1, none⟩), .int .i64 (i), .pointer (some ⟨wr.heap.size, 2, none⟩), .string (s), .bool (hasT i s (L2)), .pointer (some ⟨p10, 0, none⟩), .pointer (some ⟨wr.heap.size, 1, none⟩), .int .i64 (i), .pointer (some ⟨wr.heap.size, 2, none⟩), .string (s), .bool (hasT i s (L2)), .bool false, .bool false, .slice o61 ((ivs (L2)).length) (k62), .int .i64 ((((ivs (L2)).length : Nat) : Int)), .int .i64 (0), t 146, t 147, t 148, t 149, t 150, t 151, t 152, t 153, t 154, t 155, t 156, t 157]), rfl, Nat.zero_add _, h9⟩ ?_
              clear hM h9
              rintro m2 st wr2 ⟨e, u, rfl, he, hM⟩
              by_cases h5 : ((e : Nat) : Int) < (((ivs (L2)).length : Nat) : Int)
              · skip
                have hel : e < (ivs (L2)).length := by omega
                obtain ⟨yy, hy⟩ : ∃ yy, (ivs (L2))[e]? = some yy := ⟨_, List.getElem?_eq_getElem hel⟩
                have he1 : Shut (IntKind.i64.wrap (((e : Nat) : Int) + 1) = ((e + 1 : Nat) : Int)) := ⟨by rw [wrap_id _ (by omega) (by omega)]; omega⟩
                obtain ⟨g1, c1, hv1, hM⟩ := row_sl hM (by omega)
                cases hv1
                obtain ⟨g2, c2, hv2, hM⟩ := row_sl (hM.up 1 rfl) (by omega)
                cases hv2
                replace hM : Ms w wr2 [sl 3 1 g2 k65 ((ivs (L2)).length) ((ivs (L2)).map encZ), sl 3 1 g1 k62 ((ivs (L2)).length) ((ivs (L2)).map encZ), blk (p10) ([.int .i64 (((x : Nat) : Int)), .int .i64 (slots), .int .i64 (d2), .slice ao2 ((L2).length) (cap2)]) 44, row 64 2 (.slice ao2 (L2).length cap2) ((L2).length) (tcs (L2)), bf p7 (x) (slots) (d2) (L2), row 9 1 (.slice o55 ((ofI i L).length) p56) ((ofI i L).length) ((ofI i L).map Value.string), row 9 1 (.slice o57 ((ofI i L).length) p58) ((ofI i L).length) ((ofI i L).map Value.string), blk (wr.heap.size) (([.int .i64 (k), .int .i64 (i), .string (s)] : List Value)) 32] := hM
                refine wp_seq_k (fun K70 hK70 => ?_)
                refine wl_region ?_
                refine wl_give rfl (g_ilss 3 _ _ .i64 (((e : Nat) : Int)) ((((ivs (L2)).length : Nat) : Int)) true rfl rfl (decide_eq_true h5) ?_)
                (try simp only [Act.put, List.setIfInBounds_toArray, List.set_cons_zero, List.set_cons_succ])
                refine wl_nil ?_
                refine hK70 _ _ ?_
                (try clear hK70 K70)
                refine wp_seq_k (fun K71 hK71 => ?_)
                refine wp_cond_true rfl ?_
                refine wp_skip ?_
                refine hK71 _ _ ?_
                (try clear hK71 K71)
                refine wp_seq_k (fun K72 hK72 => ?_)
                refine wp_block ?_
                refine wp_seq_k (fun K73 hK73 => ?_)
                refine wl_region ?_
                refine wl_give rfl (g_move _ (.int .i64 (((e : Nat) : Int))) rfl ?_)
                (try simp only [Act.put, List.setIfInBounds_toArray, List.set_cons_zero, List.set_cons_succ])
                refine wl_give rfl (g_assign _ (.int .i64 (((e : Nat) : Int))) rfl ?_)
                (try simp only [Act.put, List.setIfInBounds_toArray, List.set_cons_zero, List.set_cons_succ])
                refine wl_nil ?_
                refine hK73 _ _ ?_
                (try clear hK73 K73)
                refine wp_seq_k (fun K74 hK74 => ?_)
                refine wp_region_fixed (by kernel_rfl) (by kernel_rfl) [.slice (some ⟨g1, 0, none⟩) ((ivs (L2)).length) (k62), .int .i64 (((e : Nat) : Int)), .pointer (some ⟨g1, 0 + e * 1, none⟩), .int .i64 (yy), .slice (some ⟨g2, 0, none⟩) ((ivs (L2)).length) (k65), .int .i64 (((e : Nat) : Int)), .pointer (some ⟨g2, 0 + e * 1, none⟩), .int .i64 (yy), .bool false] (by rfl) (fun wx => Ms w wx [sl 3 1 g2 k65 ((ivs (L2)).length) ((ivs (L2)).map encZ), sl 3 1 g1 k62 ((ivs (L2)).length) ((ivs (L2)).map encZ), blk (p10) ([.int .i64 (((x : Nat) : Int)), .int .i64 (slots), .int .i64 (d2), .slice ao2 ((L2).length) (cap2)]) 44, row 64 2 (.slice ao2 (L2).length cap2) ((L2).length) (tcs (L2)), bf p7 (x) (slots) (d2) (L2), row 9 1 (.slice o55 ((ofI i L).length) p56) ((ofI i L).length) ((ofI i L).map Value.string), row 9 1 (.slice o57 ((ofI i L).length) p58) ((ofI i L).length) ((ofI i L).map Value.string), blk (wr.heap.size) (([.int .i64 (k), .int .i64 (i), .string (s)] : List Value)) 32]) hM.drew ?_ ?_
                · simp only [fullL, Act.put, List.setIfInBounds_toArray, List.set_cons_succ, List.set_cons_zero]
                  refine ⟨?_, ?_, ?_, ?_, ?_, ?_, ?_, ?_, ?_, trivial⟩
                  · exact fun wx hM => gw rfl (g_move _ (.slice (some ⟨g1, 0, none⟩) ((ivs (L2)).length) (k62)) rfl ⟨rfl, hM⟩)
                  · exact fun wx hM => gw rfl (g_move _ (.int .i64 (((e : Nat) : Int))) rfl ⟨rfl, hM⟩)
                  · exact fun wx hM => gw rfl (g_ix _ _ 39 3 1 Try.underlying39 szof3 g1 0 ((ivs (L2)).length) k62 e (0 + e * 1) _ rfl rfl rfl hel rfl ⟨rfl, hM⟩)
                  · exact fun wx hM => gw rfl (g_ld1 3 _ (g1) (0 + e * 1) _ rfl (ld3 _ _ _ _ (by rw [Nat.mul_one, Nat.zero_add]; exact sl_cell (show Ms w _ [sl 3 1 g1 k62 ((ivs (L2)).length) ((ivs (L2)).map encZ), sl 3 1 g2 k65 ((ivs (L2)).length) ((ivs (L2)).map encZ), blk (p10) ([.int .i64 (((x : Nat) : Int)), .int .i64 (slots), .int .i64 (d2), .slice ao2 ((L2).length) (cap2)]) 44, row 64 2 (.slice ao2 (L2).length cap2) ((L2).length) (tcs (L2)), bf p7 (x) (slots) (d2) (L2), row 9 1 (.slice o55 ((ofI i L).length) p56) ((ofI i L).length) ((ofI i L).map Value.string), row 9 1 (.slice o57 ((ofI i L).length) p58) ((ofI i L).length) ((ofI i L).map Value.string), blk (wr.heap.size) (([.int .i64 (k), .int .i64 (i), .string (s)] : List Value)) 32] from (hM.up 1 rfl)) e _ (enc_at hy))) ⟨rfl, hM⟩)
                  · exact fun wx hM => gw rfl (g_move _ (.slice (some ⟨g2, 0, none⟩) ((ivs (L2)).length) (k65)) rfl ⟨rfl, hM⟩)
                  · exact fun wx hM => gw rfl (g_move _ (.int .i64 (((e : Nat) : Int))) rfl ⟨rfl, hM⟩)
                  · exact fun wx hM => gw rfl (g_ix _ _ 39 3 1 Try.underlying39 szof3 g2 0 ((ivs (L2)).length) k65 e (0 + e * 1) _ rfl rfl rfl hel rfl ⟨rfl, hM⟩)
                  · exact fun wx hM => gw rfl (g_ld1 3 _ (g2) (0 + e * 1) _ rfl (ld3 _ _ _ _ (by rw [Nat.mul_one, Nat.zero_add]; exact sl_cell hM e _ (enc_at hy))) ⟨rfl, hM⟩)
                  · exact fun wx hM => gw rfl (g_ine 3 _ _ .i64 (yy) (yy) false rfl rfl (decide_eq_false (fun h => h rfl)) ⟨rfl, hM⟩)
                · simp only [fullL, Act.put, List.setIfInBounds_toArray, List.set_cons_succ, List.set_cons_zero]
                  intro w75 hM
                  refine hK74 _ _ ?_
                  (try clear hK74 K74)
                  refine wp_cond_false rfl ?_
                  refine wp_skip ?_
                  refine hK72 _ _ ?_
                  (try clear hK72 K72)
                  refine wl_region ?_
                  refine wl_give rfl (g_ia 3 _ _ .i64 (((e : Nat) : Int)) (1) (((e + 1 : Nat) : Int)) rfl rfl (he1.out) ?_)
                  (try simp only [Act.put, List.setIfInBounds_toArray, List.set_cons_zero, List.set_cons_succ])
                  refine wl_give rfl (g_move _ (.int .i64 (((e + 1 : Nat) : Int))) rfl ?_)
                  (try simp only [Act.put, List.setIfInBounds_toArray, List.set_cons_zero, List.set_cons_succ])
                  refine wl_nil ?_
                  (try simp only [Exit.then, Exit.inBlock, ↓reduceIte, Nat.reduceEqDiff])
                  have h9 := sl_row ((((((((hM.up 7 rfl).up 7 rfl).up 7 rfl).up 7 rfl).up 7 rfl).up 7 rfl).up 6 rfl).up 7 rfl)
                  have h10 := (sl_row (h9.up 1 rfl)).up 1 rfl
                  exact ⟨m2 - 1, by omega, e + 1, (tl [.int .i64 (((x : Nat) : Int)), .int .i64 (slots), .slice (some ⟨b, o, none⟩) (n) (cap), undef, undef, undef, .bool false, .pointer (some ⟨p7, 0, none⟩), .int .i64 (0), .pointer (some ⟨p10, 0, none⟩), .int .i64 (0), .int .i64 (((j : Nat) : Int)), .pointer (some ⟨wr.heap.size, 0, none⟩), .slice (some ⟨g1, 0, none⟩) ((ivs (L2)).length) (k62), .slice (some ⟨g2, 0, none⟩) ((ivs (L2)).length) (k65), .int .i64 (((e : Nat) : Int)), t 16, t 17, t 18, t 19, t 20, t 21, t 22, t 23, t 24, t 25, t 26, t 27, t 28, t 29, t 30, t 31, t 32, t 33, t 34, t 35, t 36, t 37, t 38, t 39, .int .i64 (((j : Nat) : Int)), .slice (some ⟨b, o, none⟩) (n) (cap), .int .i64 (((n : Nat) : Int)), .bool true, .bool true, .int .i64 (((j : Nat) : Int)), .bool true, .bool true, .bool true, .pointer (some ⟨p10, 0, none⟩), .bool true, .bool true, t 52, t 53, .slice (some ⟨b, o, none⟩) (n) (cap), .int .i64 (((j : Nat) : Int)), .pointer (some ⟨b, o + j * 3, none⟩), .agg (([.int .i64 (k), .int .i64 (i), .string (s)] : List Value)).toArray, .agg (([.int .i64 (k), .int .i64 (i), .string (s)] : List Value)).toArray, .bool false, .pointer (some ⟨wr.heap.size, 0, none⟩), .int .i64 (k), .bool false, .bool false, t 64, t 65, t 66, t 67, t 68, t 69, t 70, t 71, t 72, t 73, t 74, t 75, t 76, .bool true, .bool true, .pointer (some ⟨p7, 0, none⟩), .pointer (some ⟨wr.heap.size, 1, none⟩), .int .i64 (i), .slice o55 ((ofI i L).length) (p56), .pointer (some ⟨p10, 0, none⟩), .pointer (some ⟨wr.heap.size, 1, none⟩), .int .i64 (i), .slice o57 ((ofI i L).length) (p58), .bool true, .bool false, t 89, t 90, t 91, t 92, t 93, t 94, t 95, t 96, t 97, t 98, t 99, .pointer (some ⟨p7, 0, none⟩), .slice (some ⟨g1, 0, none⟩) ((ivs (L2)).length) (k62), .pointer (some ⟨p10, 0, none⟩), .slice (some ⟨g2, 0, none⟩) ((ivs (L2)).length) (k65), .slice (some ⟨g1, 0, none⟩) ((ivs (L2)).length) (k62), .int .i64 ((((ivs (L2)).length : Nat) : Int)), .slice (some ⟨g2, 0, none⟩) ((ivs (L2)).length) (k65), .int .i64 ((((ivs (L2)).length : Nat) : Int)), .bool false, .bool false, .pointer (some ⟨p7, 0, none⟩), .int .i64 ((((L2).length : Nat) : Int)), .pointer (some ⟨p10, 0, none⟩), .pointer (some ⟨p10, 0, none⟩), .pointer (some ⟨p10, 3, none⟩), .slice ao2 ((L2).length) (cap2), .int .i64 ((((L2).length : Nat) : Int)), .bool false, .bool false, .bool false, .pointer (some ⟨p7, 0, none⟩), .int .i64 (d2), .pointer (some ⟨p10, 0, none⟩), .pointer (some ⟨p10, 0, none⟩), .pointer (some ⟨p10, 2, none⟩), .int .i64 (d2), .bool false, .bool false, .bool false, .pointer (some ⟨p7, 0, none⟩), .pointer (some ⟨wr.heap.size, 1, none⟩), .int .i64 (i), .pointer (some ⟨wr.heap.size, 2, none⟩), .string (s), .bool (hasT i s (L2)), .pointer (some ⟨p10, 0, none⟩), .pointer (some ⟨wr.heap.size, 1, none⟩), .int .i64 (i), .pointer (some ⟨wr.heap.size, 2, none⟩), .string (s), .bool (hasT i s (L2)), .bool false, .bool false, .slice (some ⟨g1, 0, none⟩) ((ivs (L2)).length) (k62), .int .i64 ((((ivs (L2)).length : Nat) : Int)), .int .i64 (((e + 1 : Nat) : Int)), .bool true, .int .i64 (((e : Nat) : Int)), .slice (some ⟨g1, 0, none⟩) ((ivs (L2)).length) (k62), .int .i64 (((e : Nat) : Int)), .pointer (some ⟨g1, 0 + e * 1, none⟩), .int .i64 (yy), .slice (some ⟨g2, 0, none⟩) ((ivs (L2)).length) (k65), .int .i64 (((e : Nat) : Int)), .pointer (some ⟨g2, 0 + e * 1, none⟩), .int .i64 (yy), .bool false, .int .i64 (((e + 1 : Nat) : Int))]), rfl, by omega, h10⟩
              · skip
                refine wp_seq_k (fun K76 hK76 => ?_)
                refine wl_region ?_
                refine wl_give rfl (g_ilss 3 _ _ .i64 (((e : Nat) : Int)) ((((ivs (L2)).length : Nat) : Int)) false rfl rfl (decide_eq_false h5) ?_)
                (try simp only [Act.put, List.setIfInBounds_toArray, List.set_cons_zero, List.set_cons_succ])
                refine wl_nil ?_
                refine hK76 _ _ ?_
                (try clear hK76 K76)
                refine wp_seq_k (fun K77 hK77 => ?_)
                refine wp_cond_false rfl ?_
                refine wp_exit ?_
                refine hK17 _ _ ?_
                (try clear hK17 K17)
                refine wl_region ?_
                refine wl_give rfl (g_move _ (.int .i64 (((j : Nat) : Int))) rfl ?_)
                (try simp only [Act.put, List.setIfInBounds_toArray, List.set_cons_zero, List.set_cons_succ])
                refine wl_give rfl (g_ia 3 _ _ .i64 (((j : Nat) : Int)) (1) (((j + 1 : Nat) : Int)) rfl rfl (hj1.out) ?_)
                (try simp only [Act.put, List.setIfInBounds_toArray, List.set_cons_zero, List.set_cons_succ])
                refine wl_give rfl (g_assign _ (.int .i64 (((j + 1 : Nat) : Int))) rfl ?_)
                (try simp only [Act.put, List.setIfInBounds_toArray, List.set_cons_zero, List.set_cons_succ])
                refine wl_nil ?_
                (try simp only [Exit.then, Exit.inBlock, ↓reduceIte, Nat.reduceEqDiff])
                have h9 := rb_mk ((((((((hM.up 7 rfl).up 7 rfl).up 7 rfl).up 4 rfl).up 4 rfl).up 7 rfl).up 7 rfl).up 7 rfl)
                replace h9 := h9.up 1 rfl
                replace h9 := h9.erase 2
                replace h9 := h9.erase 2
                replace h9 := h9.erase 2
                replace h9 := h9.erase 2
                replace h9 := h9.erase 2
                exact ⟨m - 1, by omega, j + 1, _, _, (tl [.int .i64 (((x : Nat) : Int)), .int .i64 (slots), .slice (some ⟨b, o, none⟩) (n) (cap), undef, undef, undef, .bool false, .pointer (some ⟨p7, 0, none⟩), .int .i64 (0), .pointer (some ⟨p10, 0, none⟩), .int .i64 (0), .int .i64 (((j + 1 : Nat) : Int)), .pointer (some ⟨wr.heap.size, 0, none⟩), .slice o61 ((ivs (L2)).length) (k62), .slice o64 ((ivs (L2)).length) (k65), u 15, t 16, t 17, t 18, t 19, t 20, t 21, t 22, t 23, t 24, t 25, t 26, t 27, t 28, t 29, t 30, t 31, t 32, t 33, t 34, t 35, t 36, t 37, t 38, t 39, .int .i64 (((j : Nat) : Int)), .slice (some ⟨b, o, none⟩) (n) (cap), .int .i64 (((n : Nat) : Int)), .bool true, .bool true, .int .i64 (((j : Nat) : Int)), .bool true, .bool true, .bool true, .pointer (some ⟨p10, 0, none⟩), .bool true, .bool true, .int .i64 (((j : Nat) : Int)), .int .i64 (((j + 1 : Nat) : Int)), .slice (some ⟨b, o, none⟩) (n) (cap), .int .i64 (((j : Nat) : Int)), .pointer (some ⟨b, o + j * 3, none⟩), .agg (([.int .i64 (k), .int .i64 (i), .string (s)] : List Value)).toArray, .agg (([.int .i64 (k), .int .i64 (i), .string (s)] : List Value)).toArray, .bool false, .pointer (some ⟨wr.heap.size, 0, none⟩), .int .i64 (k), .bool false, .bool false, t 64, t 65, t 66, t 67, t 68, t 69, t 70, t 71, t 72, t 73, t 74, t 75, t 76, .bool true, .bool true, .pointer (some ⟨p7, 0, none⟩), .pointer (some ⟨wr.heap.size, 1, none⟩), .int .i64 (i), .slice o55 ((ofI i L).length) (p56), .pointer (some ⟨p10, 0, none⟩), .pointer (some ⟨wr.heap.size, 1, none⟩), .int .i64 (i), .slice o57 ((ofI i L).length) (p58), .bool true, .bool false, t 89, t 90, t 91, t 92, t 93, t 94, t 95, t 96, t 97, t 98, t 99, .pointer (some ⟨p7, 0, none⟩), .slice o61 ((ivs (L2)).length) (k62), .pointer (some ⟨p10, 0, none⟩), .slice o64 ((ivs (L2)).length) (k65), .slice o61 ((ivs (L2)).length) (k62), .int .i64 ((((ivs (L2)).length : Nat) : Int)), .slice o64 ((ivs (L2)).length) (k65), .int .i64 ((((ivs (L2)).length : Nat) : Int)), .bool false, .bool false, .pointer (some ⟨p7, 0, none⟩), .int .i64 ((((L2).length : Nat) : Int)), .pointer (some ⟨p10, 0, none⟩), .pointer (some ⟨p10, 0, none⟩), .pointer (some ⟨p10, 3, none⟩), .slice ao2 ((L2).length) (cap2), .int .i64 ((((L2).length : Nat) : Int)), .bool false, .bool false, .bool false, .pointer (some ⟨p7, 0, none⟩), .int .i64 (d2), .pointer (some ⟨p10, 0, none⟩), .pointer (some ⟨p10, 0, none⟩), .pointer (some ⟨p10, 2, none⟩), .int .i64 (d2), .bool false, .bool false, .bool false, .pointer (some ⟨p7, 0, none⟩), .pointer (some ⟨wr.heap.size, 1, none⟩), .int .i64 (i), .pointer (some ⟨wr.heap.size, 2, none⟩), .string (s), .bool (hasT i s (L2)), .pointer (some ⟨p10, 0, none⟩), .pointer (some ⟨wr.heap.size, 1, none⟩), .int .i64 (i), .pointer (some ⟨wr.heap.size, 2, none⟩), .string (s), .bool (hasT i s (L2)), .bool false, .bool false, .slice o61 ((ivs (L2)).length) (k62), .int .i64 ((((ivs (L2)).length : Nat) : Int)), .int .i64 (((e : Nat) : Int)), .bool false, u 147, u 148, u 149, u 150, u 151, u 152, u 153, u 154, u 155, u 156, u 157]), rfl, by omega, hI2, h9⟩
        by_cases hk2 : k = 2
        · skip
          refine wp_seq_k (fun K78 hK78 => ?_)
          refine wl_region ?_
          refine wl_give rfl (g_ieq 3 _ _ .i64 (k) (0) false rfl rfl (decide_eq_false hk0) ?_)
          (try simp only [Act.put, List.setIfInBounds_toArray, List.set_cons_zero, List.set_cons_succ])
          refine wl_give rfl (g_assign _ (.bool false) rfl ?_)
          (try simp only [Act.put, List.setIfInBounds_toArray, List.set_cons_zero, List.set_cons_succ])
          refine wl_nil ?_
          refine hK78 _ _ ?_
          (try clear hK78 K78)
          refine wp_cond_false rfl ?_
          refine wp_seq_k (fun K79 hK79 => ?_)
          refine wl_region ?_
          refine wl_give rfl (g_ieq 3 _ _ .i64 (k) (1) false rfl rfl (decide_eq_false hk1) ?_)
          (try simp only [Act.put, List.setIfInBounds_toArray, List.set_cons_zero, List.set_cons_succ])
          refine wl_give rfl (g_assign _ (.bool false) rfl ?_)
          (try simp only [Act.put, List.setIfInBounds_toArray, List.set_cons_zero, List.set_cons_succ])
          refine wl_nil ?_
          refine hK79 _ _ ?_
          (try clear hK79 K79)
          refine wp_cond_false rfl ?_
          refine wp_seq_k (fun K80 hK80 => ?_)
          refine wl_region ?_
          refine wl_give rfl (g_ieq 3 _ _ .i64 (k) (2) true rfl rfl (decide_eq_true hk2) ?_)
          (try simp only [Act.put, List.setIfInBounds_toArray, List.set_cons_zero, List.set_cons_succ])
          refine wl_give rfl (g_assign _ (.bool true) rfl ?_)
          (try simp only [Act.put, List.setIfInBounds_toArray, List.set_cons_zero, List.set_cons_succ])
          refine wl_nil ?_
          refine hK80 _ _ ?_
          (try clear hK80 K80)
          refine wp_cond_true rfl ?_
          refine wp_seq_k (fun K81 hK81 => ?_)
          refine wp_region_steps (by kernel_rfl) (by kernel_rfl) [3, 7] [0, 0, 0, 0, 0, 0, 0, 1, 2] [0, 2, 0, 1, 1, 2, 1, 2, 2] (by kernel_rfl) (Pm := Unit) (fun π => [.pointer (some ⟨p7, 0, none⟩), .pointer (some ⟨wr.heap.size, 1, none⟩), .int .i64 (i), .int .i64 (((bdN i L : Nat) : Int)), .pointer (some ⟨p10, 0, none⟩), .pointer (some ⟨wr.heap.size, 1, none⟩), .int .i64 (i), .int .i64 (((bdN i L : Nat) : Int)), .bool false]) (fun _ => by rfl) (fun j_ π wx => match j_ with | 0 => Ms w wx [blk (wr.heap.size) (([.int .i64 (k), .int .i64 (i), .string (s)] : List Value)) 32, bf p7 (x) (slots) (d) (L), rb p10 ((x : Nat) : Int) slots (d) (L)] | 1 => Ms w wx [bf p7 (x) (slots) (d) (notB i L), blk (wr.heap.size) (([.int .i64 (k), .int .i64 (i), .string (s)] : List Value)) 32, rb p10 ((x : Nat) : Int) slots (d) (L)] | _ => Ms w wx [rb p10 ((x : Nat) : Int) slots (d) (notB i L), bf p7 (x) (slots) (d) (notB i L), blk (wr.heap.size) (([.int .i64 (k), .int .i64 (i), .string (s)] : List Value)) 32]) () hM.drew ?_ ?_ ?_
          · intro j_ k_ o_ hj_ ho_ π wx hM
            rcases j_ with _ | _ | j_
            · obtain rfl := Option.some.inj hj_
              obtain rfl := Option.some.inj ho_
              simp only [fullL, Act.put, List.setIfInBounds_toArray, List.set_cons_succ, List.set_cons_zero]
              replace hM : Ms w wx [blk (wr.heap.size) (([.int .i64 (k), .int .i64 (i), .string (s)] : List Value)) 32, bf p7 (x) (slots) (d) (L), rb p10 ((x : Nat) : Int) slots (d) (L)] := hM
              exact gw rfl (g_call 19 _ _ [.pointer (some ⟨p7, 0, none⟩), .int .i64 (i)] (kf19 _ _) rfl ((drop_any (show Ms w wx [bf p7 (x) (slots) (d) (L), blk (wr.heap.size) (([.int .i64 (k), .int .i64 (i), .string (s)] : List Value)) 32, rb p10 ((x : Nat) : Int) slots (d) (L)] from (hM.up 1 rfl)) (by omega)).mono (fun e w' ⟨h1_, h2_⟩ => ⟨_, h1_, ⟨(), rfl, (fun _ _ _ => by first | rfl | trivial), h2_⟩⟩)))
            · obtain rfl := Option.some.inj hj_
              obtain rfl := Option.some.inj ho_
              simp only [fullL, Act.put, List.setIfInBounds_toArray, List.set_cons_succ, List.set_cons_zero]
              replace hM : Ms w wx [bf p7 (x) (slots) (d) (notB i L), blk (wr.heap.size) (([.int .i64 (k), .int .i64 (i), .string (s)] : List Value)) 32, rb p10 ((x : Nat) : Int) slots (d) (L)] := hM
              exact gw rfl (g_call 20 _ _ [.pointer (some ⟨p10, 0, none⟩), .int .i64 (i)] (kf20 _ _) rfl ((rdrop_any (show Ms w wx [rb p10 ((x : Nat) : Int) slots (d) (L), bf p7 (x) (slots) (d) (notB i L), blk (wr.heap.size) (([.int .i64 (k), .int .i64 (i), .string (s)] : List Value)) 32] from (hM.up 2 rfl)) (by omega) hlow1 hik).mono (fun e w' ⟨h1_, h2_⟩ => ⟨_, h1_, ⟨(), rfl, (fun _ _ _ => by first | rfl | trivial), h2_⟩⟩)))
            · simp at hj_
          · intro i_ o_ ho_ hi_ j_ hd_ hh_ hj_ π wx hM
            simp only [fullL, Act.put, List.setIfInBounds_toArray, List.set_cons_succ, List.set_cons_zero]
            rcases i_ with _ | _ | _ | _ | _ | _ | _ | _ | _ | i_
            · obtain rfl := Option.some.inj ho_
              exact gw rfl (g_move _ (.pointer (some ⟨p7, 0, none⟩)) rfl ⟨rfl, hM⟩)
            · obtain rfl := Option.some.inj ho_
              exact gw rfl (g_fa 32 _ (wr.heap.size) (0) (1) 1 rfl (fa32_1 _ _ _) ⟨rfl, hM⟩)
            · obtain rfl := Option.some.inj ho_
              rcases j_ with _ | _ | _ | j_
              · replace hM : Ms w wx [blk (wr.heap.size) (([.int .i64 (k), .int .i64 (i), .string (s)] : List Value)) 32, bf p7 (x) (slots) (d) (L), rb p10 ((x : Nat) : Int) slots (d) (L)] := hM
                exact gw rfl (g_ld1 3 _ (wr.heap.size) 1 _ rfl (ld3 _ _ _ _ ((hM.get 0 rfl).cell 1 _ rfl)) ⟨rfl, hM⟩)
              · exact absurd hh_ (by decide)
              · exact absurd hh_ (by decide)
              · exact absurd hj_ (by simp)
            · exact absurd (by decide) hi_
            · obtain rfl := Option.some.inj ho_
              exact gw rfl (g_move _ (.pointer (some ⟨p10, 0, none⟩)) rfl ⟨rfl, hM⟩)
            · obtain rfl := Option.some.inj ho_
              exact gw rfl (g_fa 32 _ (wr.heap.size) (0) (1) 1 rfl (fa32_1 _ _ _) ⟨rfl, hM⟩)
            · obtain rfl := Option.some.inj ho_
              rcases j_ with _ | _ | _ | j_
              · replace hM : Ms w wx [blk (wr.heap.size) (([.int .i64 (k), .int .i64 (i), .string (s)] : List Value)) 32, bf p7 (x) (slots) (d) (L), rb p10 ((x : Nat) : Int) slots (d) (L)] := hM
                exact gw rfl (g_ld1 3 _ (wr.heap.size) 1 _ rfl (ld3 _ _ _ _ ((hM.get 0 rfl).cell 1 _ rfl)) ⟨rfl, hM⟩)
              · replace hM : Ms w wx [bf p7 (x) (slots) (d) (notB i L), blk (wr.heap.size) (([.int .i64 (k), .int .i64 (i), .string (s)] : List Value)) 32, rb p10 ((x : Nat) : Int) slots (d) (L)] := hM
                exact gw rfl (g_ld1 3 _ (wr.heap.size) 1 _ rfl (ld3 _ _ _ _ ((hM.get 1 rfl).cell 1 _ rfl)) ⟨rfl, hM⟩)
              · exact absurd hh_ (by decide)
              · exact absurd hj_ (by simp)
            · exact absurd (by decide) hi_
            · obtain rfl := Option.some.inj ho_
              exact gw rfl (g_ine 3 _ _ .i64 (((bdN i L : Nat) : Int)) (((bdN i L : Nat) : Int)) false rfl rfl (decide_eq_false (fun h => h rfl)) ⟨rfl, hM⟩)
            · simp at ho_
          · simp only [fullL, Act.put, List.setIfInBounds_toArray, List.set_cons_succ, List.set_cons_zero]
            rintro ⟨⟩ w82 hM
            replace hM : Ms w w82 [rb p10 ((x : Nat) : Int) slots (d) (notB i L), bf p7 (x) (slots) (d) (notB i L), blk (wr.heap.size) (([.int .i64 (k), .int .i64 (i), .string (s)] : List Value)) 32] := hM
            refine hK81 _ _ ?_
            (try clear hK81 K81)
            refine wp_cond_false rfl ?_
            refine wp_skip ?_
            refine hK27 _ _ ?_
            (try clear hK27 K27)
            have hI2 : Shut (Do (notB i L) (d) (j + 1)) := ⟨do_drop hI.out i⟩
            obtain ⟨L2, hL2⟩ : ∃ L2, L2 = notB i L := ⟨_, rfl⟩
            obtain ⟨d2, hd2⟩ : ∃ d2, d2 = d := ⟨_, rfl⟩
            have h9 := ((hM.up 0 rfl).up 1 rfl)
            have h10 : Ms w w82 [bf p7 (x) (slots) (d2) (L2), rb p10 ((x : Nat) : Int) slots (d2) (L2), blk (wr.heap.size) (([.int .i64 (k), .int .i64 (i), .string (s)] : List Value)) 32] := by rw [hL2, hd2]; exact h9
            rw [← hL2, ← hd2] at hI2
            clear hL2 hd2 h9 hM
            have hM := h10
            clear h10
            have hle2 := hI2.out.le
            refine wp_seq_k (fun K83 hK83 => ?_)
            refine wl_region ?_
            refine wl_give rfl (g_move _ (.pointer (some ⟨p7, 0, none⟩)) rfl ?_)
            (try simp only [Act.put, List.setIfInBounds_toArray, List.set_cons_zero, List.set_cons_succ])
            refine wl_give rfl (g_call 21 _ _ [.pointer (some ⟨p7, 0, none⟩)] (kf21 _ _) rfl ((to_row (ivals_any hM (by omega))).mono ?_))
            rintro e w84 ⟨o85, k86, rfl, h_⟩
            refine ⟨_, rfl, ?_⟩
            replace hM : Ms w w84 [row 3 1 (.slice o85 ((ivs (L2)).length) k86) ((ivs (L2)).length) ((ivs (L2)).map encZ), bf p7 (x) (slots) (d2) (L2), rb p10 ((x : Nat) : Int) slots (d2) (L2), blk (wr.heap.size) (([.int .i64 (k), .int .i64 (i), .string (s)] : List Value)) 32] := h_
            clear h_
            (try simp only [Act.put, List.setIfInBounds_toArray, List.set_cons_zero, List.set_cons_succ])
            refine wl_give rfl (g_move _ (.pointer (some ⟨p10, 0, none⟩)) rfl ?_)
            (try simp only [Act.put, List.setIfInBounds_toArray, List.set_cons_zero, List.set_cons_succ])
            refine wl_give rfl (g_call 22 _ _ [.pointer (some ⟨p10, 0, none⟩)] (kf22 _ _) rfl ((to_row (rivals_any (show Ms w w84 [rb p10 ((x : Nat) : Int) slots (d2) (L2), row 3 1 (.slice o85 ((ivs (L2)).length) k86) ((ivs (L2)).length) ((ivs (L2)).map encZ), bf p7 (x) (slots) (d2) (L2), blk (wr.heap.size) (([.int .i64 (k), .int .i64 (i), .string (s)] : List Value)) 32] from (hM.up 2 rfl)) (by omega))).mono ?_))
            rintro e w87 ⟨o88, k89, rfl, h_⟩
            refine ⟨_, rfl, ?_⟩
            replace hM : Ms w w87 [row 3 1 (.slice o88 ((ivs (L2)).length) k89) ((ivs (L2)).length) ((ivs (L2)).map encZ), rb p10 ((x : Nat) : Int) slots (d2) (L2), row 3 1 (.slice o85 ((ivs (L2)).length) k86) ((ivs (L2)).length) ((ivs (L2)).map encZ), bf p7 (x) (slots) (d2) (L2), blk (wr.heap.size) (([.int .i64 (k), .int .i64 (i), .string (s)] : List Value)) 32] := h_
            clear h_
            (try simp only [Act.put, List.setIfInBounds_toArray, List.set_cons_zero, List.set_cons_succ])
            refine wl_give rfl (g_assign _ (.slice o85 ((ivs (L2)).length) (k86)) rfl ?_)
            (try simp only [Act.put, List.setIfInBounds_toArray, List.set_cons_zero, List.set_cons_succ])
            refine wl_give rfl (g_assign _ (.slice o88 ((ivs (L2)).length) (k89)) rfl ?_)
            (try simp only [Act.put, List.setIfInBounds_toArray, List.set_cons_zero, List.set_cons_succ])
            refine wl_nil ?_
            refine hK83 _ _ ?_
            (try clear hK83 K83)
            refine wp_seq_k (fun K90 hK90 => ?_)
            obtain ⟨ao2, cap2, h9⟩ := rb_cut (hM.up 1 rfl)
            have hM : Ms w w87 [blk (p10) ([.int .i64 (((x : Nat) : Int)), .int .i64 (slots), .int .i64 (d2), .slice ao2 ((L2).length) (cap2)]) 44, row 64 2 (.slice ao2 (L2).length cap2) ((L2).length) (tcs (L2)), row 3 1 (.slice o88 ((ivs (L2)).length) k89) ((ivs (L2)).length) ((ivs (L2)).map encZ), row 3 1 (.slice o85 ((ivs (L2)).length) k86) ((ivs (L2)).length) ((ivs (L2)).map encZ), bf p7 (x) (slots) (d2) (L2), blk (wr.heap.size) (([.int .i64 (k), .int .i64 (i), .string (s)] : List Value)) 32] := h9
            clear h9
            refine wp_seq_k (fun K91 hK91 => ?_)
            (try simp only [List.append_eq, List.cons_append, List.nil_append])
            refine wp_region_steps (by kernel_rfl) (by kernel_rfl) [36] [0, 0, 0, 0, 0, 0, 0, 0, 0, 0, 0, 0, 0, 0, 0, 0, 0, 0, 0, 0, 0, 0, 0, 0, 0, 0, 0, 0, 0, 0, 0, 0, 0, 0, 0, 0, 0, 1, 1] [1, 1, 1, 1, 1, 1, 1, 1, 1, 1, 1, 1, 1, 1, 1, 1, 1, 1, 1, 1, 1, 1, 1, 1, 0, 1, 1, 1, 1, 1, 0, 0, 1, 0, 1, 0, 1, 1, 1] (by kernel_rfl) (Pm := Unit) (fun π => [.slice o85 ((ivs (L2)).length) (k86), .int .i64 ((((ivs (L2)).length : Nat) : Int)), .slice o88 ((ivs (L2)).length) (k89), .int .i64 ((((ivs (L2)).length : Nat) : Int)), .bool false, .bool false, .pointer (some ⟨p7, 0, none⟩), .int .i64 ((((L2).length : Nat) : Int)), .pointer (some ⟨p10, 0, none⟩), .pointer (some ⟨p10, 0, none⟩), .pointer (some ⟨p10, 3, none⟩), .slice ao2 ((L2).length) (cap2), .int .i64 ((((L2).length : Nat) : Int)), .bool false, .bool false, .bool false, .pointer (some ⟨p7, 0, none⟩), .int .i64 (d2), .pointer (some ⟨p10, 0, none⟩), .pointer (some ⟨p10, 0, none⟩), .pointer (some ⟨p10, 2, none⟩), .int .i64 (d2), .bool false, .bool false, .bool false, .pointer (some ⟨p7, 0, none⟩), .pointer (some ⟨wr.heap.size, 1, none⟩), .int .i64 (i), .pointer (some ⟨wr.heap.size, 2, none⟩), .string (s), .bool (hasT i s (L2)), .pointer (some ⟨p10, 0, none⟩), .pointer (some ⟨wr.heap.size, 1, none⟩), .int .i64 (i), .pointer (some ⟨wr.heap.size, 2, none⟩), .string (s), .bool (hasT i s (L2)), .bool false, .bool false]) (fun _ => by rfl) (fun j_ π wx => match j_ with | 0 => Ms w wx [blk (p10) ([.int .i64 (((x : Nat) : Int)), .int .i64 (slots), .int .i64 (d2), .slice ao2 ((L2).length) (cap2)]) 44, row 64 2 (.slice ao2 (L2).length cap2) ((L2).length) (tcs (L2)), row 3 1 (.slice o88 ((ivs (L2)).length) k89) ((ivs (L2)).length) ((ivs (L2)).map encZ), row 3 1 (.slice o85 ((ivs (L2)).length) k86) ((ivs (L2)).length) ((ivs (L2)).map encZ), bf p7 (x) (slots) (d2) (L2), blk (wr.heap.size) (([.int .i64 (k), .int .i64 (i), .string (s)] : List Value)) 32] | _ => Ms w wx [blk (p10) ([.int .i64 (((x : Nat) : Int)), .int .i64 (slots), .int .i64 (d2), .slice ao2 ((L2).length) (cap2)]) 44, row 64 2 (.slice ao2 (L2).length cap2) ((L2).length) (tcs (L2)), row 3 1 (.slice o88 ((ivs (L2)).length) k89) ((ivs (L2)).length) ((ivs (L2)).map encZ), row 3 1 (.slice o85 ((ivs (L2)).length) k86) ((ivs (L2)).length) ((ivs (L2)).map encZ), bf p7 (x) (slots) (d2) (L2), blk (wr.heap.size) (([.int .i64 (k), .int .i64 (i), .string (s)] : List Value)) 32]) () hM.drew ?_ ?_ ?_
            · intro j_ k_ o_ hj_ ho_ π wx hM
              rcases j_ with _ | j_
              · obtain rfl := Option.some.inj hj_
                obtain rfl := Option.some.inj ho_
                simp only [fullL, Act.put, List.setIfInBounds_toArray, List.set_cons_succ, List.set_cons_zero]
                replace hM : Ms w wx [blk (p10) ([.int .i64 (((x : Nat) : Int)), .int .i64 (slots), .int .i64 (d2), .slice ao2 ((L2).length) (cap2)]) 44, row 64 2 (.slice ao2 (L2).length cap2) ((L2).length) (tcs (L2)), row 3 1 (.slice o88 ((ivs (L2)).length) k89) ((ivs (L2)).length) ((ivs (L2)).map encZ), row 3 1 (.slice o85 ((ivs (L2)).length) k86) ((ivs (L2)).length) ((ivs (L2)).map encZ), bf p7 (x) (slots) (d2) (L2), blk (wr.heap.size) (([.int .i64 (k), .int .i64 (i), .string (s)] : List Value)) 32] := hM
                exact gw rfl (g_call 26 _ _ [.pointer (some ⟨p10, 0, none⟩), .int .i64 (i), .string (s)] (kf26 _ _) rfl ((rhas_op (show Ms w wx [blk (p10) ([.int .i64 (((x : Nat) : Int)), .int .i64 (slots), .int .i64 (d2), .slice ao2 ((L2).length) (cap2)]) 44, row 64 2 (.slice ao2 (L2).length cap2) ((L2).length) (tcs (L2)), row 3 1 (.slice o88 ((ivs (L2)).length) k89) ((ivs (L2)).length) ((ivs (L2)).map encZ), row 3 1 (.slice o85 ((ivs (L2)).length) k86) ((ivs (L2)).length) ((ivs (L2)).map encZ), bf p7 (x) (slots) (d2) (L2), blk (wr.heap.size) (([.int .i64 (k), .int .i64 (i), .string (s)] : List Value)) 32] from ((hM.up 1 rfl).up 1 rfl)) (by omega)).mono (fun e w' ⟨h1_, h2_⟩ => ⟨_, h1_, ⟨(), rfl, (fun _ _ _ => by first | rfl | trivial), h2_⟩⟩)))
              · simp at hj_
            · intro i_ o_ ho_ hi_ j_ hd_ hh_ hj_ π wx hM
              simp only [fullL, Act.put, List.setIfInBounds_toArray, List.set_cons_succ, List.set_cons_zero]
              rcases i_ with _ | _ | _ | _ | _ | _ | _ | _ | _ | _ | _ | _ | _ | _ | _ | _ | _ | _ | _ | _ | _ | _ | _ | _ | _ | _ | _ | _ | _ | _ | _ | _ | _ | _ | _ | _ | _ | _ | _ | i_
              · obtain rfl := Option.some.inj ho_
                exact gw rfl (g_move _ (.slice o85 ((ivs (L2)).length) (k86)) rfl ⟨rfl, hM⟩)
              · obtain rfl := Option.some.inj ho_
                exact gw rfl (g_len _ 39 3 (o85) ((ivs (L2)).length) (k86) ((((ivs (L2)).length : Nat) : Int)) Try.underlying39 rfl rfl ⟨rfl, hM⟩)
              · obtain rfl := Option.some.inj ho_
                exact gw rfl (g_move _ (.slice o88 ((ivs (L2)).length) (k89)) rfl ⟨rfl, hM⟩)
              · obtain rfl := Option.some.inj ho_
                exact gw rfl (g_len _ 39 3 (o88) ((ivs (L2)).length) (k89) ((((ivs (L2)).length : Nat) : Int)) Try.underlying39 rfl rfl ⟨rfl, hM⟩)
              · obtain rfl := Option.some.inj ho_
                exact gw rfl (g_ine 3 _ _ .i64 ((((ivs (L2)).length : Nat) : Int)) ((((ivs (L2)).length : Nat) : Int)) false rfl rfl (decide_eq_false (fun h => h rfl)) ⟨rfl, hM⟩)
              · obtain rfl := Option.some.inj ho_
                exact gw rfl (g_move _ (.bool false) rfl ⟨rfl, hM⟩)
              · obtain rfl := Option.some.inj ho_
                exact gw rfl (g_move _ (.pointer (some ⟨p7, 0, none⟩)) rfl ⟨rfl, hM⟩)
              · obtain rfl := Option.some.inj ho_
                rcases j_ with _ | _ | j_
                · replace hM : Ms w wx [blk (p10) ([.int .i64 (((x : Nat) : Int)), .int .i64 (slots), .int .i64 (d2), .slice ao2 ((L2).length) (cap2)]) 44, row 64 2 (.slice ao2 (L2).length cap2) ((L2).length) (tcs (L2)), row 3 1 (.slice o88 ((ivs (L2)).length) k89) ((ivs (L2)).length) ((ivs (L2)).map encZ), row 3 1 (.slice o85 ((ivs (L2)).length) k86) ((ivs (L2)).length) ((ivs (L2)).map encZ), bf p7 (x) (slots) (d2) (L2), blk (wr.heap.size) (([.int .i64 (k), .int .i64 (i), .string (s)] : List Value)) 32] := hM
                  exact gw rfl (g_call 23 _ _ [.pointer (some ⟨p7, 0, none⟩)] (kf23 _ _) rfl ((keep1 4 rfl (fun R_ h_ => size_v (n := (((L2).length : Nat) : Int)) h_ (by omega) (rfl)) hM).mono (fun _ _ ⟨h1_, h2_⟩ => ⟨_, h1_, rfl, h2_⟩)))
                · replace hM : Ms w wx [blk (p10) ([.int .i64 (((x : Nat) : Int)), .int .i64 (slots), .int .i64 (d2), .slice ao2 ((L2).length) (cap2)]) 44, row 64 2 (.slice ao2 (L2).length cap2) ((L2).length) (tcs (L2)), row 3 1 (.slice o88 ((ivs (L2)).length) k89) ((ivs (L2)).length) ((ivs (L2)).map encZ), row 3 1 (.slice o85 ((ivs (L2)).length) k86) ((ivs (L2)).length) ((ivs (L2)).map encZ), bf p7 (x) (slots) (d2) (L2), blk (wr.heap.size) (([.int .i64 (k), .int .i64 (i), .string (s)] : List Value)) 32] := hM
                  exact gw rfl (g_call 23 _ _ [.pointer (some ⟨p7, 0, none⟩)] (kf23 _ _) rfl ((keep1 4 rfl (fun R_ h_ => size_v (n := (((L2).length : Nat) : Int)) h_ (by omega) (rfl)) hM).mono (fun _ _ ⟨h1_, h2_⟩ => ⟨_, h1_, rfl, h2_⟩)))
                · exact absurd hj_ (by simp)
              · obtain rfl := Option.some.inj ho_
                exact gw rfl (g_move _ (.pointer (some ⟨p10, 0, none⟩)) rfl ⟨rfl, hM⟩)
              · obtain rfl := Option.some.inj ho_
                exact gw rfl (g_nil _ ⟨p10, 0, none⟩ rfl ⟨rfl, hM⟩)
              · obtain rfl := Option.some.inj ho_
                exact gw rfl (g_fa 44 _ (p10) (0) (3) 3 rfl (fa44_3 _ _ _) ⟨rfl, hM⟩)
              · obtain rfl := Option.some.inj ho_
                rcases j_ with _ | _ | j_
                · replace hM : Ms w wx [blk (p10) ([.int .i64 (((x : Nat) : Int)), .int .i64 (slots), .int .i64 (d2), .slice ao2 ((L2).length) (cap2)]) 44, row 64 2 (.slice ao2 (L2).length cap2) ((L2).length) (tcs (L2)), row 3 1 (.slice o88 ((ivs (L2)).length) k89) ((ivs (L2)).length) ((ivs (L2)).map encZ), row 3 1 (.slice o85 ((ivs (L2)).length) k86) ((ivs (L2)).length) ((ivs (L2)).map encZ), bf p7 (x) (slots) (d2) (L2), blk (wr.heap.size) (([.int .i64 (k), .int .i64 (i), .string (s)] : List Value)) 32] := hM
                  exact gw rfl (g_ld1 42 _ (p10) 3 _ rfl (ld42 _ _ _ _ ((hM.get 0 rfl).cell 3 _ rfl)) ⟨rfl, hM⟩)
                · replace hM : Ms w wx [blk (p10) ([.int .i64 (((x : Nat) : Int)), .int .i64 (slots), .int .i64 (d2), .slice ao2 ((L2).length) (cap2)]) 44, row 64 2 (.slice ao2 (L2).length cap2) ((L2).length) (tcs (L2)), row 3 1 (.slice o88 ((ivs (L2)).length) k89) ((ivs (L2)).length) ((ivs (L2)).map encZ), row 3 1 (.slice o85 ((ivs (L2)).length) k86) ((ivs (L2)).length) ((ivs (L2)).map encZ), bf p7 (x) (slots) (d2) (L2), blk (wr.heap.size) (([.int .i64 (k), .int .i64 (i), .string (s)] : List Value)) 32] := hM
                  exact gw rfl (g_ld1 42 _ (p10) 3 _ rfl (ld42 _ _ _ _ ((hM.get 0 rfl).cell 3 _ rfl)) ⟨rfl, hM⟩)
                · exact absurd hj_ (by simp)
              · obtain rfl := Option.some.inj ho_
                exact gw rfl (g_len _ 42 64 (ao2) ((L2).length) (cap2) ((((L2).length : Nat) : Int)) Try.underlying42 rfl rfl ⟨rfl, hM⟩)
              · obtain rfl := Option.some.inj ho_
                exact gw rfl (g_ine 3 _ _ .i64 ((((L2).length : Nat) : Int)) ((((L2).length : Nat) : Int)) false rfl rfl (decide_eq_false (fun h => h rfl)) ⟨rfl, hM⟩)
              · obtain rfl := Option.some.inj ho_
                exact gw rfl (g_pickf _ _ _ (.bool false) rfl rfl ⟨rfl, hM⟩)
              · obtain rfl := Option.some.inj ho_
                exact gw rfl (g_move _ (.bool false) rfl ⟨rfl, hM⟩)
              · obtain rfl := Option.some.inj ho_
                exact gw rfl (g_move _ (.pointer (some ⟨p7, 0, none⟩)) rfl ⟨rfl, hM⟩)
              · obtain rfl := Option.some.inj ho_
                rcases j_ with _ | _ | j_
                · replace hM : Ms w wx [blk (p10) ([.int .i64 (((x : Nat) : Int)), .int .i64 (slots), .int .i64 (d2), .slice ao2 ((L2).length) (cap2)]) 44, row 64 2 (.slice ao2 (L2).length cap2) ((L2).length) (tcs (L2)), row 3 1 (.slice o88 ((ivs (L2)).length) k89) ((ivs (L2)).length) ((ivs (L2)).map encZ), row 3 1 (.slice o85 ((ivs (L2)).length) k86) ((ivs (L2)).length) ((ivs (L2)).map encZ), bf p7 (x) (slots) (d2) (L2), blk (wr.heap.size) (([.int .i64 (k), .int .i64 (i), .string (s)] : List Value)) 32] := hM
                  exact gw rfl (g_call 24 _ _ [.pointer (some ⟨p7, 0, none⟩)] (kf24 _ _) rfl ((keep1 4 rfl (fun R_ h_ => dropped_any h_) hM).mono (fun _ _ ⟨h1_, h2_⟩ => ⟨_, h1_, rfl, h2_⟩)))
                · replace hM : Ms w wx [blk (p10) ([.int .i64 (((x : Nat) : Int)), .int .i64 (slots), .int .i64 (d2), .slice ao2 ((L2).length) (cap2)]) 44, row 64 2 (.slice ao2 (L2).length cap2) ((L2).length) (tcs (L2)), row 3 1 (.slice o88 ((ivs (L2)).length) k89) ((ivs (L2)).length) ((ivs (L2)).map encZ), row 3 1 (.slice o85 ((ivs (L2)).length) k86) ((ivs (L2)).length) ((ivs (L2)).map encZ), bf p7 (x) (slots) (d2) (L2), blk (wr.heap.size) (([.int .i64 (k), .int .i64 (i), .string (s)] : List Value)) 32] := hM
                  exact gw rfl (g_call 24 _ _ [.pointer (some ⟨p7, 0, none⟩)] (kf24 _ _) rfl ((keep1 4 rfl (fun R_ h_ => dropped_any h_) hM).mono (fun _ _ ⟨h1_, h2_⟩ => ⟨_, h1_, rfl, h2_⟩)))
                · exact absurd hj_ (by simp)
              · obtain rfl := Option.some.inj ho_
                exact gw rfl (g_move _ (.pointer (some ⟨p10, 0, none⟩)) rfl ⟨rfl, hM⟩)
              · obtain rfl := Option.some.inj ho_
                exact gw rfl (g_nil _ ⟨p10, 0, none⟩ rfl ⟨rfl, hM⟩)
              · obtain rfl := Option.some.inj ho_
                exact gw rfl (g_fa 44 _ (p10) (0) (2) 2 rfl (fa44_2 _ _ _) ⟨rfl, hM⟩)
              · obtain rfl := Option.some.inj ho_
                rcases j_ with _ | _ | j_
                · replace hM : Ms w wx [blk (p10) ([.int .i64 (((x : Nat) : Int)), .int .i64 (slots), .int .i64 (d2), .slice ao2 ((L2).length) (cap2)]) 44, row 64 2 (.slice ao2 (L2).length cap2) ((L2).length) (tcs (L2)), row 3 1 (.slice o88 ((ivs (L2)).length) k89) ((ivs (L2)).length) ((ivs (L2)).map encZ), row 3 1 (.slice o85 ((ivs (L2)).length) k86) ((ivs (L2)).length) ((ivs (L2)).map encZ), bf p7 (x) (slots) (d2) (L2), blk (wr.heap.size) (([.int .i64 (k), .int .i64 (i), .string (s)] : List Value)) 32] := hM
                  exact gw rfl (g_ld1 3 _ (p10) 2 _ rfl (ld3 _ _ _ _ ((hM.get 0 rfl).cell 2 _ rfl)) ⟨rfl, hM⟩)
                · replace hM : Ms w wx [blk (p10) ([.int .i64 (((x : Nat) : Int)), .int .i64 (slots), .int .i64 (d2), .slice ao2 ((L2).length) (cap2)]) 44, row 64 2 (.slice ao2 (L2).length cap2) ((L2).length) (tcs (L2)), row 3 1 (.slice o88 ((ivs (L2)).length) k89) ((ivs (L2)).length) ((ivs (L2)).map encZ), row 3 1 (.slice o85 ((ivs (L2)).length) k86) ((ivs (L2)).length) ((ivs (L2)).map encZ), bf p7 (x) (slots) (d2) (L2), blk (wr.heap.size) (([.int .i64 (k), .int .i64 (i), .string (s)] : List Value)) 32] := hM
                  exact gw rfl (g_ld1 3 _ (p10) 2 _ rfl (ld3 _ _ _ _ ((hM.get 0 rfl).cell 2 _ rfl)) ⟨rfl, hM⟩)
                · exact absurd hj_ (by simp)
              · obtain rfl := Option.some.inj ho_
                exact gw rfl (g_ine 3 _ _ .i64 (d2) (d2) false rfl rfl (decide_eq_false (fun h => h rfl)) ⟨rfl, hM⟩)
              · obtain rfl := Option.some.inj ho_
                exact gw rfl (g_pickf _ _ _ (.bool false) rfl rfl ⟨rfl, hM⟩)
              · obtain rfl := Option.some.inj ho_
                exact gw rfl (g_move _ (.bool false) rfl ⟨rfl, hM⟩)
              · obtain rfl := Option.some.inj ho_
                exact gw rfl (g_move _ (.pointer (some ⟨p7, 0, none⟩)) rfl ⟨rfl, hM⟩)
              · obtain rfl := Option.some.inj ho_
                exact gw rfl (g_fa 32 _ (wr.heap.size) (0) (1) 1 rfl (fa32_1 _ _ _) ⟨rfl, hM⟩)
              · obtain rfl := Option.some.inj ho_
                rcases j_ with _ | _ | j_
                · replace hM : Ms w wx [blk (p10) ([.int .i64 (((x : Nat) : Int)), .int .i64 (slots), .int .i64 (d2), .slice ao2 ((L2).length) (cap2)]) 44, row 64 2 (.slice ao2 (L2).length cap2) ((L2).length) (tcs (L2)), row 3 1 (.slice o88 ((ivs (L2)).length) k89) ((ivs (L2)).length) ((ivs (L2)).map encZ), row 3 1 (.slice o85 ((ivs (L2)).length) k86) ((ivs (L2)).length) ((ivs (L2)).map encZ), bf p7 (x) (slots) (d2) (L2), blk (wr.heap.size) (([.int .i64 (k), .int .i64 (i), .string (s)] : List Value)) 32] := hM
                  exact gw rfl (g_ld1 3 _ (wr.heap.size) 1 _ rfl (ld3 _ _ _ _ ((hM.get 5 rfl).cell 1 _ rfl)) ⟨rfl, hM⟩)
                · replace hM : Ms w wx [blk (p10) ([.int .i64 (((x : Nat) : Int)), .int .i64 (slots), .int .i64 (d2), .slice ao2 ((L2).length) (cap2)]) 44, row 64 2 (.slice ao2 (L2).length cap2) ((L2).length) (tcs (L2)), row 3 1 (.slice o88 ((ivs (L2)).length) k89) ((ivs (L2)).length) ((ivs (L2)).map encZ), row 3 1 (.slice o85 ((ivs (L2)).length) k86) ((ivs (L2)).length) ((ivs (L2)).map encZ), bf p7 (x) (slots) (d2) (L2), blk (wr.heap.size) (([.int .i64 (k), .int .i64 (i), .string (s)] : List Value)) 32] := hM
                  exact gw rfl (g_ld1 3 _ (wr.heap.size) 1 _ rfl (ld3 _ _ _ _ ((hM.get 5 rfl).cell 1 _ rfl)) ⟨rfl, hM⟩)
                · exact absurd hj_ (by simp)
              · obtain rfl := Option.some.inj ho_
                exact gw rfl (g_fa 32 _ (wr.heap.size) (0) (2) 2 rfl (fa32_2 _ _ _) ⟨rfl, hM⟩)
              · obtain rfl := Option.some.inj ho_
                rcases j_ with _ | _ | j_
                · replace hM : Ms w wx [blk (p10) ([.int .i64 (((x : Nat) : Int)), .int .i64 (slots), .int .i64 (d2), .slice ao2 ((L2).length) (cap2)]) 44, row 64 2 (.slice ao2 (L2).length cap2) ((L2).length) (tcs (L2)), row 3 1 (.slice o88 ((ivs (L2)).length) k89) ((ivs (L2)).length) ((ivs (L2)).map encZ), row 3 1 (.slice o85 ((ivs (L2)).length) k86) ((ivs (L2)).length) ((ivs (L2)).map encZ), bf p7 (x) (slots) (d2) (L2), blk (wr.heap.size) (([.int .i64 (k), .int .i64 (i), .string (s)] : List Value)) 32] := hM
                  exact gw rfl (g_ld1 9 _ (wr.heap.size) 2 _ rfl (ld9 _ _ _ _ ((hM.get 5 rfl).cell 2 _ rfl)) ⟨rfl, hM⟩)
                · replace hM : Ms w wx [blk (p10) ([.int .i64 (((x : Nat) : Int)), .int .i64 (slots), .int .i64 (d2), .slice ao2 ((L2).length) (cap2)]) 44, row 64 2 (.slice ao2 (L2).length cap2) ((L2).length) (tcs (L2)), row 3 1 (.slice o88 ((ivs (L2)).length) k89) ((ivs (L2)).length) ((ivs (L2)).map encZ), row 3 1 (.slice o85 ((ivs (L2)).length) k86) ((ivs (L2)).length) ((ivs (L2)).map encZ), bf p7 (x) (slots) (d2) (L2), blk (wr.heap.size) (([.int .i64 (k), .int .i64 (i), .string (s)] : List Value)) 32] := hM
                  exact gw rfl (g_ld1 9 _ (wr.heap.size) 2 _ rfl (ld9 _ _ _ _ ((hM.get 5 rfl).cell 2 _ rfl)) ⟨rfl, hM⟩)
                · exact absurd hj_ (by simp)
              · obtain rfl := Option.some.inj ho_
                rcases j_ with _ | _ | j_
                · replace hM : Ms w wx [blk (p10) ([.int .i64 (((x : Nat) : Int)), .int .i64 (slots), .int .i64 (d2), .slice ao2 ((L2).length) (cap2)]) 44, row 64 2 (.slice ao2 (L2).length cap2) ((L2).length) (tcs (L2)), row 3 1 (.slice o88 ((ivs (L2)).length) k89) ((ivs (L2)).length) ((ivs (L2)).map encZ), row 3 1 (.slice o85 ((ivs (L2)).length) k86) ((ivs (L2)).length) ((ivs (L2)).map encZ), bf p7 (x) (slots) (d2) (L2), blk (wr.heap.size) (([.int .i64 (k), .int .i64 (i), .string (s)] : List Value)) 32] := hM
                  exact gw rfl (g_call 25 _ _ [.pointer (some ⟨p7, 0, none⟩), .int .i64 (i), .string (s)] (kf25 _ _) rfl ((keep1 4 rfl (fun R_ h_ => has_v (r := hasT i s (L2)) h_ (by omega) rfl) hM).mono (fun _ _ ⟨h1_, h2_⟩ => ⟨_, h1_, rfl, h2_⟩)))
                · exact absurd hh_ (by decide)
                · exact absurd hj_ (by simp)
              · obtain rfl := Option.some.inj ho_
                exact gw rfl (g_move _ (.pointer (some ⟨p10, 0, none⟩)) rfl ⟨rfl, hM⟩)
              · obtain rfl := Option.some.inj ho_
                exact gw rfl (g_fa 32 _ (wr.heap.size) (0) (1) 1 rfl (fa32_1 _ _ _) ⟨rfl, hM⟩)
              · obtain rfl := Option.some.inj ho_
                rcases j_ with _ | _ | j_
                · replace hM : Ms w wx [blk (p10) ([.int .i64 (((x : Nat) : Int)), .int .i64 (slots), .int .i64 (d2), .slice ao2 ((L2).length) (cap2)]) 44, row 64 2 (.slice ao2 (L2).length cap2) ((L2).length) (tcs (L2)), row 3 1 (.slice o88 ((ivs (L2)).length) k89) ((ivs (L2)).length) ((ivs (L2)).map encZ), row 3 1 (.slice o85 ((ivs (L2)).length) k86) ((ivs (L2)).length) ((ivs (L2)).map encZ), bf p7 (x) (slots) (d2) (L2), blk (wr.heap.size) (([.int .i64 (k), .int .i64 (i), .string (s)] : List Value)) 32] := hM
                  exact gw rfl (g_ld1 3 _ (wr.heap.size) 1 _ rfl (ld3 _ _ _ _ ((hM.get 5 rfl).cell 1 _ rfl)) ⟨rfl, hM⟩)
                · exact absurd hh_ (by decide)
                · exact absurd hj_ (by simp)
              · obtain rfl := Option.some.inj ho_
                exact gw rfl (g_fa 32 _ (wr.heap.size) (0) (2) 2 rfl (fa32_2 _ _ _) ⟨rfl, hM⟩)
              · obtain rfl := Option.some.inj ho_
                rcases j_ with _ | _ | j_
                · replace hM : Ms w wx [blk (p10) ([.int .i64 (((x : Nat) : Int)), .int .i64 (slots), .int .i64 (d2), .slice ao2 ((L2).length) (cap2)]) 44, row 64 2 (.slice ao2 (L2).length cap2) ((L2).length) (tcs (L2)), row 3 1 (.slice o88 ((ivs (L2)).length) k89) ((ivs (L2)).length) ((ivs (L2)).map encZ), row 3 1 (.slice o85 ((ivs (L2)).length) k86) ((ivs (L2)).length) ((ivs (L2)).map encZ), bf p7 (x) (slots) (d2) (L2), blk (wr.heap.size) (([.int .i64 (k), .int .i64 (i), .string (s)] : List Value)) 32] := hM
                  exact gw rfl (g_ld1 9 _ (wr.heap.size) 2 _ rfl (ld9 _ _ _ _ ((hM.get 5 rfl).cell 2 _ rfl)) ⟨rfl, hM⟩)
                · exact absurd hh_ (by decide)
                · exact absurd hj_ (by simp)
              · exact absurd (by decide) hi_
              · obtain rfl := Option.some.inj ho_
                exact gw rfl (g_bne _ _ (hasT i s (L2)) (hasT i s (L2)) false rfl rfl (by simp) ⟨rfl, hM⟩)
              · obtain rfl := Option.some.inj ho_
                exact gw rfl (g_pickf _ _ _ (.bool false) rfl rfl ⟨rfl, hM⟩)
              · simp at ho_
            · simp only [fullL, Act.put, List.setIfInBounds_toArray, List.set_cons_succ, List.set_cons_zero]
              rintro ⟨⟩ w92 hM
              replace hM : Ms w w92 [blk (p10) ([.int .i64 (((x : Nat) : Int)), .int .i64 (slots), .int .i64 (d2), .slice ao2 ((L2).length) (cap2)]) 44, row 64 2 (.slice ao2 (L2).length cap2) ((L2).length) (tcs (L2)), row 3 1 (.slice o88 ((ivs (L2)).length) k89) ((ivs (L2)).length) ((ivs (L2)).map encZ), row 3 1 (.slice o85 ((ivs (L2)).length) k86) ((ivs (L2)).length) ((ivs (L2)).map encZ), bf p7 (x) (slots) (d2) (L2), blk (wr.heap.size) (([.int .i64 (k), .int .i64 (i), .string (s)] : List Value)) 32] := hM
              refine hK91 _ _ ?_
              (try clear hK91 K91)
              refine wp_cond_false rfl ?_
              refine wp_skip ?_
              refine hK90 _ _ ?_
              (try clear hK90 K90)
              refine wp_seq_k (fun K93 hK93 => ?_)
              refine wl_region ?_
              refine wl_give rfl (g_move _ (.slice o85 ((ivs (L2)).length) (k86)) rfl ?_)
              (try simp only [Act.put, List.setIfInBounds_toArray, List.set_cons_zero, List.set_cons_succ])
              refine wl_give rfl (g_len _ 39 3 (o85) ((ivs (L2)).length) (k86) ((((ivs (L2)).length : Nat) : Int)) Try.underlying39 rfl rfl ?_)
              (try simp only [Act.put, List.setIfInBounds_toArray, List.set_cons_zero, List.set_cons_succ])
              refine wl_give rfl (g_move _ (.int .i64 (0)) rfl ?_)
              (try simp only [Act.put, List.setIfInBounds_toArray, List.set_cons_zero, List.set_cons_succ])
              refine wl_nil ?_
              refine hK93 _ _ ?_
              (try clear hK93 K93)
              refine wp_block ?_
              have h9 := ((((((hM.up 5 rfl).up 5 rfl).up 3 rfl).up 3 rfl).up 4 rfl).up 5 rfl)
              have hivl : (ivs (L2)).length ≤ 101 := Nat.le_trans (ivs_le _) (by omega)
              refine wp_rounds (fun m2 st wr2 => ∃ (e : Nat) (u : Nat → Value), st = ⟨#[.int .i64 (((x : Nat) : Int)), .int .i64 (slots), .slice (some ⟨b, o, none⟩) (n) (cap), undef, undef, undef, .bool false, .pointer (some ⟨p7, 0, none⟩), .int .i64 (0), .pointer (some ⟨p10, 0, none⟩), .int .i64 (0), .int .i64 (((j : Nat) : Int)), .pointer (some ⟨wr.heap.size, 0, none⟩), .slice o85 ((ivs (L2)).length) (k86), .slice o88 ((ivs (L2)).length) (k89), u 15, t 16, t 17, t 18, t 19, t 20, t 21, t 22, t 23, t 24, t 25, t 26, t 27, t 28, t 29, t 30, t 31, t 32, t 33, t 34, t 35, t 36, t 37, t 38, t 39, .int .i64 (((j : Nat) : Int)), .slice (some ⟨b, o, none⟩) (n) (cap), .int .i64 (((n : Nat) : Int)), .bool true, .bool true, .int .i64 (((j : Nat) : Int)), .bool true, .bool true, .bool true, .pointer (some ⟨p10, 0, none⟩), .bool true, .bool true, t 52, t 53, .slice (some ⟨b, o, none⟩) (n) (cap), .int .i64 (((j : Nat) : Int)), .pointer (some ⟨b, o + j * 3, none⟩), .agg (([.int .i64 (k), .int .i64 (i), .string (s)] : List Value)).toArray, .agg (([.int .i64 (k), .int .i64 (i), .string (s)] : List Value)).toArray, .bool false, .pointer (some ⟨wr.heap.size, 0, none⟩), .int .i64 (k), .bool false, .bool false, t 64, t 65, t 66, t 67, t 68, t 69, t 70, t 71, t 72, t 73, t 74, t 75, t 76, .bool false, .bool false, t 79, t 80, t 81, t 82, t 83, t 84, t 85, t 86, t 87, t 88, .bool true, .bool true, .pointer (some ⟨p7, 0, none⟩), .pointer (some ⟨wr.heap.size, 1, none⟩), .int .i64 (i), .int .i64 (((bdN i L : Nat) : Int)), .pointer (some ⟨p10, 0, none⟩), .pointer (some ⟨wr.heap.size, 1, none⟩), .int .i64 (i), .int .i64 (((bdN i L : Nat) : Int)), .bool false, .pointer (some ⟨p7, 0, none⟩), .slice o85 ((ivs (L2)).length) (k86), .pointer (some ⟨p10, 0, none⟩), .slice o88 ((ivs (L2)).length) (k89), .slice o85 ((ivs (L2)).length) (k86), .int .i64 ((((ivs (L2)).length : Nat) : Int)), .slice o88 ((ivs (L2)).length) (k89), .int .i64 ((((ivs (L2)).length : Nat) : Int)), .bool false, .bool false, .pointer (some ⟨p7, 0, none⟩), .int .i64 ((((L2).length : Nat) : Int)), .pointer (some ⟨p10, 0, none⟩), .pointer (some ⟨p10, 0, none⟩), .pointer (some ⟨p10, 3, none⟩), .slice ao2 ((L2).length) (cap2), .int .i64 ((((L2).length : Nat) : Int)), .bool false, .bool false, .bool false, .pointer (some ⟨p7, 0, none⟩), .int .i64 (d2), .pointer (some ⟨p10, 0, none⟩), .pointer (some ⟨p10, 0, none⟩), .pointer (some ⟨p10, 2, none⟩), .int .i64 (d2), .bool false, .bool false, .bool false, .pointer (some ⟨p7, 0, none⟩), .pointer (some ⟨wr.heap.size, 1, none⟩), .int .i64 (i), .pointer (some ⟨wr.heap.size, 2, none⟩), .string (s), .bool (hasT i s (L2)), .pointer (some ⟨p10, 0, none⟩), .pointer (some ⟨wr.heap.size, 1, none⟩), .int .i64 (i), .pointer (some ⟨wr.heap.size, 2, none⟩), .string (s), .bool (hasT i s (L2)), .bool false, .bool false, .slice o85 ((ivs (L2)).length) (k86), .int .i64 ((((ivs (L2)).length : Nat) : Int)), .int .i64 ((e : Nat) : Int), u 146, u 147, u 148, u 149, u 150, u 151, u 152, u 153, u 154, u 155, u 156, u 157], []⟩ ∧ e + m2 = (ivs (L2)).length ∧ Ms w wr2 [row 3 1 (.slice o85 ((ivs (L2)).length) k86) ((ivs (L2)).length) ((ivs (L2)).map encZ), row 3 1 (.slice o88 ((ivs (L2)).length) k89) ((ivs (L2)).length) ((ivs (L2)).map encZ), blk (p10) ([.int .i64 (((x : Nat) : Int)), .int .i64 (slots), .int .i64 (d2), .slice ao2 ((L2).length) (cap2)]) 44, row 64 2 (.slice ao2 (L2).length cap2) ((L2).length) (tcs (L2)), bf p7 (x) (slots) (d2) (L2), blk (wr.heap.size) (([.int .i64 (k), .int .i64 (i), .string (s)] : List Value)) 32]) _ ⟨0, (tl [.int .i64 (((x : Nat) : Int)), .int .i64 (slots), .slice (some ⟨b, o, none⟩) (n) (cap), undef, undef, undef, .bool false, .pointer (some ⟨p7, 0, none⟩), .int .i64 (0), .pointer (some ⟨p10, 0, none⟩), .int .i64 (0), .int .i64 (((j : Nat) : Int)), .pointer (some ⟨wr.heap.size, 0, none⟩), .slice o85 ((ivs (L2)).length) (k86), .slice o88 ((ivs (L2)).length) (k89), t 15, t 16, t 17, t 18, t 19, t 20, t 21, t 22, t 23, t 24, t 25, t 26, t 27, t 28, t 29, t 30, t 31, t 32, t 33, t 34, t 35, t 36, t 37, t 38, t 39, .int .i64 (((j : Nat) : Int)), .slice (some ⟨b, o, none⟩) (n) (cap), .int .i64 (((n : Nat) : Int)), .bool true, .bool true, .int .i64 (((j : Nat) : Int)), .bool true, .bool true, .bool true, .pointer (some ⟨p10, 0, none⟩), .bool true, .bool true, t 52, t 53, .slice (some ⟨b, o, none⟩) (n) (cap), .int .i64 (((j : Nat) : Int)), .pointer (some ⟨b, o + j * 3, none⟩), .agg (([.int .i64 (k), .int .i64 (i), .string (s)] : List Value)).toArray, .agg (([.int .i64 (k), .int .i64 (i), .string (s)] : List Value)).toArray, .bool false, .pointer (some ⟨wr.heap.size, 0, none⟩), .int .i64 (k), .bool false, .bool false, t 64, t 65, t 66, t 67, t 68, t 69, t 70, t 71, t 72, t 73, t 74, t 75, t 76, .bool false, .bool false, t 79, t 80, t 81, t 82, t 83, t 84, t 85, t 86, t 87, t 88, .bool true, .bool true, .pointer (some ⟨p7, 0, none⟩), .pointer (some ⟨wr.heap.size, 1, none⟩), .int .i64 (i), .int .i64 (((bdN i L : Nat) : Int)), .pointer (some ⟨p10, 0, none⟩), .pointer (some ⟨wr.heap.size, 1, none⟩), .int .i64 (i), .int .i64 (((bdN i L : Nat) : Int)), .bool false, .pointer (some ⟨p7, 0, none⟩), .slice o85 ((ivs (L2)).length) (k86), .pointer (some ⟨p10, 0, none⟩), .slice o88 ((ivs (L2)).length) (k89), .slice o85 ((ivs (L2)).length) (k86), .int .i64 ((((ivs (L2)).length : Nat) : Int)), .slice o88 ((ivs (L2)).length) (k89), .int .i64 ((((ivs (L2)).length : Nat) : Int)), .bool false, .bool false, .pointer (some ⟨p7, 0, none⟩), .int .i64 ((((L2).length : Nat) : Int)), .pointer (some ⟨p10, 0, none⟩), .pointer (some ⟨p10, 0, none⟩), .pointer (some ⟨p10, 3, none⟩), .slice ao2 ((L2).length) (cap2), .int .i64 ((((L2).length : Nat) : Int)), .bool false, .bool false, .bool false, .pointer (some ⟨p7, 0, none⟩), .int .i64 (d2), .pointer (some ⟨p10, 0, none⟩), .pointer (some ⟨p10, 0, none⟩), .pointer (some ⟨p10, 2, none⟩), .int .i64 (d2), .bool false, .bool false, .bool false, .pointer (some ⟨p7, 0, none⟩), .pointer (some ⟨wr.heap.size, 1, none⟩), .int .i64 (i), .pointer (some ⟨wr.heap.size, 2, none⟩), .string (s), .bool (hasT i s (L2)), .pointer (some ⟨p10, 0, none⟩), .pointer (some ⟨wr.heap.size, 1, none⟩), .int .i64 (i), .pointer (some ⟨wr.heap.size, 2, none⟩), .string (s), .bool (hasT i s (L2)), .bool false, .bool false, .slice o85 ((ivs (L2)).length) (k86), .int .i64 ((((ivs (L2)).length : Nat) : Int)), .int .i64 (0), t 146, t 147, t 148, t 149, t 150, t 151, t 152, t 153, t 154, t 155, t 156, t 157]), rfl, Nat.zero_add _, h9⟩ ?_
              clear hM h9
              rintro m2 st wr2 ⟨e, u, rfl, he, hM⟩
              by_cases h5 : ((e : Nat) : Int) < (((ivs (L2)).length : Nat) : Int)
              · skip
                have hel : e < (ivs (L2)).length := by omega
                obtain ⟨yy, hy⟩ : ∃ yy, (ivs (L2))[e]? = some yy := ⟨_, List.getElem?_eq_getElem hel⟩
                have he1 : Shut (IntKind.i64.wrap (((e : Nat) : Int) + 1) = ((e + 1 : Nat) : Int)) := ⟨by rw [wrap_id _ (by omega) (by omega)]; omega⟩
                obtain ⟨g1, c1, hv1, hM⟩ := row_sl hM (by omega)
                cases hv1
                obtain ⟨g2, c2, hv2, hM⟩ := row_sl (hM.up 1 rfl) (by omega)
                cases hv2
                replace hM : Ms w wr2 [sl 3 1 g2 k89 ((ivs (L2)).length) ((ivs (L2)).map encZ), sl 3 1 g1 k86 ((ivs (L2)).length) ((ivs (L2)).map encZ), blk (p10) ([.int .i64 (((x : Nat) : Int)), .int .i64 (slots), .int .i64 (d2), .slice ao2 ((L2).length) (cap2)]) 44, row 64 2 (.slice ao2 (L2).length cap2) ((L2).length) (tcs (L2)), bf p7 (x) (slots) (d2) (L2), blk (wr.heap.size) (([.int .i64 (k), .int .i64 (i), .string (s)] : List Value)) 32] := hM
                refine wp_seq_k (fun K94 hK94 => ?_)
                refine wl_region ?_
                refine wl_give rfl (g_ilss 3 _ _ .i64 (((e : Nat) : Int)) ((((ivs (L2)).length : Nat) : Int)) true rfl rfl (decide_eq_true h5) ?_)
                (try simp only [Act.put, List.setIfInBounds_toArray, List.set_cons_zero, List.set_cons_succ])
                refine wl_nil ?_
                refine hK94 _ _ ?_
                (try clear hK94 K94)
                refine wp_seq_k (fun K95 hK95 => ?_)
                refine wp_cond_true rfl ?_
                refine wp_skip ?_
                refine hK95 _ _ ?_
                (try clear hK95 K95)
                refine wp_seq_k (fun K96 hK96 => ?_)
                refine wp_block ?_
                refine wp_seq_k (fun K97 hK97 => ?_)
                refine wl_region ?_
                refine wl_give rfl (g_move _ (.int .i64 (((e : Nat) : Int))) rfl ?_)
                (try simp only [Act.put, List.setIfInBounds_toArray, List.set_cons_zero, List.set_cons_succ])
                refine wl_give rfl (g_assign _ (.int .i64 (((e : Nat) : Int))) rfl ?_)
                (try simp only [Act.put, List.setIfInBounds_toArray, List.set_cons_zero, List.set_cons_succ])
                refine wl_nil ?_
                refine hK97 _ _ ?_
                (try clear hK97 K97)
                refine wp_seq_k (fun K98 hK98 => ?_)
                refine wp_region_fixed (by kernel_rfl) (by kernel_rfl) [.slice (some ⟨g1, 0, none⟩) ((ivs (L2)).length) (k86), .int .i64 (((e : Nat) : Int)), .pointer (some ⟨g1, 0 + e * 1, none⟩), .int .i64 (yy), .slice (some ⟨g2, 0, none⟩) ((ivs (L2)).length) (k89), .int .i64 (((e : Nat) : Int)), .pointer (some ⟨g2, 0 + e * 1, none⟩), .int .i64 (yy), .bool false] (by rfl) (fun wx => Ms w wx [sl 3 1 g2 k89 ((ivs (L2)).length) ((ivs (L2)).map encZ), sl 3 1 g1 k86 ((ivs (L2)).length) ((ivs (L2)).map encZ), blk (p10) ([.int .i64 (((x : Nat) : Int)), .int .i64 (slots), .int .i64 (d2), .slice ao2 ((L2).length) (cap2)]) 44, row 64 2 (.slice ao2 (L2).length cap2) ((L2).length) (tcs (L2)), bf p7 (x) (slots) (d2) (L2), blk (wr.heap.size) (([.int .i64 (k), .int .i64 (i), .string (s)] : List Value)) 32]) hM.drew ?_ ?_
                · simp only [fullL, Act.put, List.setIfInBounds_toArray, List.set_cons_succ, List.set_cons_zero]
                  refine ⟨?_, ?_, ?_, ?_, ?_, ?_, ?_, ?_, ?_, trivial⟩
                  · exact fun wx hM => gw rfl (g_move _ (.slice (some ⟨g1, 0, none⟩) ((ivs (L2)).length) (k86)) rfl ⟨rfl, hM⟩)
                  · exact fun wx hM => gw rfl (g_move _ (.int .i64 (((e : Nat) : Int))) rfl ⟨rfl, hM⟩)
                  · exact fun wx hM => gw rfl (g_ix _ _ 39 3 1 Try.underlying39 szof3 g1 0 ((ivs (L2)).length) k86 e (0 + e * 1) _ rfl rfl rfl hel rfl ⟨rfl, hM⟩)
                  · exact fun wx hM => gw rfl (g_ld1 3 _ (g1) (0 + e * 1) _ rfl (ld3 _ _ _ _ (by rw [Nat.mul_one, Nat.zero_add]; exact sl_cell (show Ms w _ [sl 3 1 g1 k86 ((ivs (L2)).length) ((ivs (L2)).map encZ), sl 3 1 g2 k89 ((ivs (L2)).length) ((ivs (L2)).map encZ), blk (p10) ([.int .i64 (((x : Nat) : Int)), .int .i64 (slots), .int .i64 (d2), .slice ao2 ((L2).length) (cap2)]) 44, row 64 2 (.slice ao2 (L2).length cap2) ((L2).length) (tcs (L2)), bf p7 (x) (slots) (d2) (L2), blk (wr.heap.size) (([.int .i64 (k), .int .i64 (i), .string (s)] : List Value)) 32] from (hM.up 1 rfl)) e _ (enc_at hy))) ⟨rfl, hM⟩)
                  · exact fun wx hM => gw rfl (g_move _ (.slice (some ⟨g2, 0, none⟩) ((ivs (L2)).length) (k89)) rfl ⟨rfl, hM⟩)
                  · exact fun wx hM => gw rfl (g_move _ (.int .i64 (((e : Nat) : Int))) rfl ⟨rfl, hM⟩)
                  · exact fun wx hM => gw rfl (g_ix _ _ 39 3 1 Try.underlying39 szof3 g2 0 ((ivs (L2)).length) k89 e (0 + e * 1) _ rfl rfl rfl hel rfl ⟨rfl, hM⟩)
                  · exact fun wx hM => gw rfl (g_ld1 3 _ (g2) (0 + e * 1) _ rfl (ld3 _ _ _ _ (by rw [Nat.mul_one, Nat.zero_add]; exact sl_cell hM e _ (enc_at hy))) ⟨rfl, hM⟩)
                  · exact fun wx hM => gw rfl (g_ine 3 _ _ .i64 (yy) (yy) false rfl rfl (decide_eq_false (fun h => h rfl)) ⟨rfl, hM⟩)
                · simp only [fullL, Act.put, List.setIfInBounds_toArray, List.set_cons_succ, List.set_cons_zero]
                  intro w99 hM
                  refine hK98 _ _ ?_
                  (try clear hK98 K98)
                  refine wp_cond_false rfl ?_
                  refine wp_skip ?_
                  refine hK96 _ _ ?_
                  (try clear hK96 K96)
                  refine wl_region ?_
                  refine wl_give rfl (g_ia 3 _ _ .i64 (((e : Nat) : Int)) (1) (((e + 1 : Nat) : Int)) rfl rfl (he1.out) ?_)
                  (try simp only [Act.put, List.setIfInBounds_toArray, List.set_cons_zero, List.set_cons_succ])
                  refine wl_give rfl (g_move _ (.int .i64 (((e + 1 : Nat) : Int))) rfl ?_)
                  (try simp only [Act.put, List.setIfInBounds_toArray, List.set_cons_zero, List.set_cons_succ])
                  refine wl_nil ?_
                  (try simp only [Exit.then, Exit.inBlock, ↓reduceIte, Nat.reduceEqDiff])
                  have h9 := sl_row ((((((hM.up 5 rfl).up 5 rfl).up 5 rfl).up 5 rfl).up 4 rfl).up 5 rfl)
                  have h10 := (sl_row (h9.up 1 rfl)).up 1 rfl
                  exact ⟨m2 - 1, by omega, e + 1, (tl [.int .i64 (((x : Nat) : Int)), .int .i64 (slots), .slice (some ⟨b, o, none⟩) (n) (cap), undef, undef, undef, .bool false, .pointer (some ⟨p7, 0, none⟩), .int .i64 (0), .pointer (some ⟨p10, 0, none⟩), .int .i64 (0), .int .i64 (((j : Nat) : Int)), .pointer (some ⟨wr.heap.size, 0, none⟩), .slice (some ⟨g1, 0, none⟩) ((ivs (L2)).length) (k86), .slice (some ⟨g2, 0, none⟩) ((ivs (L2)).length) (k89), .int .i64 (((e : Nat) : Int)), t 16, t 17, t 18, t 19, t 20, t 21, t 22, t 23, t 24, t 25, t 26, t 27, t 28, t 29, t 30, t 31, t 32, t 33, t 34, t 35, t 36, t 37, t 38, t 39, .int .i64 (((j : Nat) : Int)), .slice (some ⟨b, o, none⟩) (n) (cap), .int .i64 (((n : Nat) : Int)), .bool true, .bool true, .int .i64 (((j : Nat) : Int)), .bool true, .bool true, .bool true, .pointer (some ⟨p10, 0, none⟩), .bool true, .bool true, t 52, t 53, .slice (some ⟨b, o, none⟩) (n) (cap), .int .i64 (((j : Nat) : Int)), .pointer (some ⟨b, o + j * 3, none⟩), .agg (([.int .i64 (k), .int .i64 (i), .string (s)] : List Value)).toArray, .agg (([.int .i64 (k), .int .i64 (i), .string (s)] : List Value)).toArray, .bool false, .pointer (some ⟨wr.heap.size, 0, none⟩), .int .i64 (k), .bool false, .bool false, t 64, t 65, t 66, t 67, t 68, t 69, t 70, t 71, t 72, t 73, t 74, t 75, t 76, .bool false, .bool false, t 79, t 80, t 81, t 82, t 83, t 84, t 85, t 86, t 87, t 88, .bool true, .bool true, .pointer (some ⟨p7, 0, none⟩), .pointer (some ⟨wr.heap.size, 1, none⟩), .int .i64 (i), .int .i64 (((bdN i L : Nat) : Int)), .pointer (some ⟨p10, 0, none⟩), .pointer (some ⟨wr.heap.size, 1, none⟩), .int .i64 (i), .int .i64 (((bdN i L : Nat) : Int)), .bool false, .pointer (some ⟨p7, 0, none⟩), .slice (some ⟨g1, 0, none⟩) ((ivs (L2)).length) (k86), .pointer (some ⟨p10, 0, none⟩), .slice (some ⟨g2, 0, none⟩) ((ivs (L2)).length) (k89), .slice (some ⟨g1, 0, none⟩) ((ivs (L2)).length) (k86), .int .i64 ((((ivs (L2)).length : Nat) : Int)), .slice (some ⟨g2, 0, none⟩) ((ivs (L2)).length) (k89), .int .i64 ((((ivs (L2)).length : Nat) : Int)), .bool false, .bool false, .pointer (some ⟨p7, 0, none⟩), .int .i64 ((((L2).length : Nat) : Int)), .pointer (some ⟨p10, 0, none⟩), .pointer (some ⟨p10, 0, none⟩), .pointer (some ⟨p10, 3, none⟩), .slice ao2 ((L2).length) (cap2), .int .i64 ((((L2).length : Nat) : Int)), .bool false, .bool false, .bool false, .pointer (some ⟨p7, 0, none⟩), .int .i64 (d2), .pointer (some ⟨p10, 0, none⟩), .pointer (some ⟨p10, 0, none⟩), .pointer (some ⟨p10, 2, none⟩), .int .i64 (d2), .bool false, .bool false, .bool false, .pointer (some ⟨p7, 0, none⟩), .pointer (some ⟨wr.heap.size, 1, none⟩), .int .i64 (i), .pointer (some ⟨wr.heap.size, 2, none⟩), .string (s), .bool (hasT i s (L2)), .pointer (some ⟨p10, 0, none⟩), .pointer (some ⟨wr.heap.size, 1, none⟩), .int .i64 (i), .pointer (some ⟨wr.heap.size, 2, none⟩), .string (s), .bool (hasT i s (L2)), .bool false, .bool false, .slice (some ⟨g1, 0, none⟩) ((ivs (L2)).length) (k86), .int .i64 ((((ivs (L2)).length : Nat) : Int)), .int .i64 (((e + 1 : Nat) : Int)), .bool true, .int .i64 (((e : Nat) : Int)), .slice (some ⟨g1, 0, none⟩) ((ivs (L2)).length) (k86), .int .i64 (((e : Nat) : Int)), .pointer (some ⟨g1, 0 + e * 1, none⟩), .int .i64 (yy), .slice (some ⟨g2, 0, none⟩) ((ivs (L2)).length) (k89), .int .i64 (((e : Nat) : Int)), .pointer (some ⟨g2, 0 + e * 1, none⟩), .int .i64 (yy), .bool false, .int .i64 (((e + 1 : Nat) : Int))]), rfl, by omega, h10⟩
              · skip
                refine wp_seq_k (fun K100 hK100 => ?_)
                refine wl_region ?_
                refine wl_give rfl (g_ilss 3 _ _ .i64 (((e : Nat) : Int)) ((((ivs (L2)).length : Nat) : Int)) false rfl rfl (decide_eq_false h5) ?_)
                (try simp only [Act.put, List.setIfInBounds_toArray, List.set_cons_zero, List.set_cons_succ])
                refine wl_nil ?_
                refine hK100 _ _ ?_
                (try clear hK100 K100)
                refine wp_seq_k (fun K101 hK101 => ?_)
                refine wp_cond_false rfl ?_
                refine wp_exit ?_
                refine hK17 _ _ ?_
                (try clear hK17 K17)
                refine wl_region ?_
                refine wl_give rfl (g_move _ (.int .i64 (((j : Nat) : Int))) rfl ?_)
                (try simp only [Act.put, List.setIfInBounds_toArray, List.set_cons_zero, List.set_cons_succ])
                refine wl_give rfl (g_ia 3 _ _ .i64 (((j : Nat) : Int)) (1) (((j + 1 : Nat) : Int)) rfl rfl (hj1.out) ?_)
                (try simp only [Act.put, List.setIfInBounds_toArray, List.set_cons_zero, List.set_cons_succ])
                refine wl_give rfl (g_assign _ (.int .i64 (((j + 1 : Nat) : Int))) rfl ?_)
                (try simp only [Act.put, List.setIfInBounds_toArray, List.set_cons_zero, List.set_cons_succ])
                refine wl_nil ?_
                (try simp only [Exit.then, Exit.inBlock, ↓reduceIte, Nat.reduceEqDiff])
                have h9 := rb_mk ((((((hM.up 5 rfl).up 2 rfl).up 2 rfl).up 5 rfl).up 5 rfl).up 5 rfl)
                replace h9 := h9.up 1 rfl
                replace h9 := h9.erase 2
                replace h9 := h9.erase 2
                replace h9 := h9.erase 2
                exact ⟨m - 1, by omega, j + 1, _, _, (tl [.int .i64 (((x : Nat) : Int)), .int .i64 (slots), .slice (some ⟨b, o, none⟩) (n) (cap), undef, undef, undef, .bool false, .pointer (some ⟨p7, 0, none⟩), .int .i64 (0), .pointer (some ⟨p10, 0, none⟩), .int .i64 (0), .int .i64 (((j + 1 : Nat) : Int)), .pointer (some ⟨wr.heap.size, 0, none⟩), .slice o85 ((ivs (L2)).length) (k86), .slice o88 ((ivs (L2)).length) (k89), u 15, t 16, t 17, t 18, t 19, t 20, t 21, t 22, t 23, t 24, t 25, t 26, t 27, t 28, t 29, t 30, t 31, t 32, t 33, t 34, t 35, t 36, t 37, t 38, t 39, .int .i64 (((j : Nat) : Int)), .slice (some ⟨b, o, none⟩) (n) (cap), .int .i64 (((n : Nat) : Int)), .bool true, .bool true, .int .i64 (((j : Nat) : Int)), .bool true, .bool true, .bool true, .pointer (some ⟨p10, 0, none⟩), .bool true, .bool true, .int .i64 (((j : Nat) : Int)), .int .i64 (((j + 1 : Nat) : Int)), .slice (some ⟨b, o, none⟩) (n) (cap), .int .i64 (((j : Nat) : Int)), .pointer (some ⟨b, o + j * 3, none⟩), .agg (([.int .i64 (k), .int .i64 (i), .string (s)] : List Value)).toArray, .agg (([.int .i64 (k), .int .i64 (i), .string (s)] : List Value)).toArray, .bool false, .pointer (some ⟨wr.heap.size, 0, none⟩), .int .i64 (k), .bool false, .bool false, t 64, t 65, t 66, t 67, t 68, t 69, t 70, t 71, t 72, t 73, t 74, t 75, t 76, .bool false, .bool false, t 79, t 80, t 81, t 82, t 83, t 84, t 85, t 86, t 87, t 88, .bool true, .bool true, .pointer (some ⟨p7, 0, none⟩), .pointer (some ⟨wr.heap.size, 1, none⟩), .int .i64 (i), .int .i64 (((bdN i L : Nat) : Int)), .pointer (some ⟨p10, 0, none⟩), .pointer (some ⟨wr.heap.size, 1, none⟩), .int .i64 (i), .int .i64 (((bdN i L : Nat) : Int)), .bool false, .pointer (some ⟨p7, 0, none⟩), .slice o85 ((ivs (L2)).length) (k86), .pointer (some ⟨p10, 0, none⟩), .slice o88 ((ivs (L2)).length) (k89), .slice o85 ((ivs (L2)).length) (k86), .int .i64 ((((ivs (L2)).length : Nat) : Int)), .slice o88 ((ivs (L2)).length) (k89), .int .i64 ((((ivs (L2)).length : Nat) : Int)), .bool false, .bool false, .pointer (some ⟨p7, 0, none⟩), .int .i64 ((((L2).length : Nat) : Int)), .pointer (some ⟨p10, 0, none⟩), .pointer (some ⟨p10, 0, none⟩), .pointer (some ⟨p10, 3, none⟩), .slice ao2 ((L2).length) (cap2), .int .i64 ((((L2).length : Nat) : Int)), .bool false, .bool false, .bool false, .pointer (some ⟨p7, 0, none⟩), .int .i64 (d2), .pointer (some ⟨p10, 0, none⟩), .pointer (some ⟨p10, 0, none⟩), .pointer (some ⟨p10, 2, none⟩), .int .i64 (d2), .bool false, .bool false, .bool false, .pointer (some ⟨p7, 0, none⟩), .pointer (some ⟨wr.heap.size, 1, none⟩), .int .i64 (i), .pointer (some ⟨wr.heap.size, 2, none⟩), .string (s), .bool (hasT i s (L2)), .pointer (some ⟨p10, 0, none⟩), .pointer (some ⟨wr.heap.size, 1, none⟩), .int .i64 (i), .pointer (some ⟨wr.heap.size, 2, none⟩), .string (s), .bool (hasT i s (L2)), .bool false, .bool false, .slice o85 ((ivs (L2)).length) (k86), .int .i64 ((((ivs (L2)).length : Nat) : Int)), .int .i64 (((e : Nat) : Int)), .bool false, u 147, u 148, u 149, u 150, u 151, u 152, u 153, u 154, u 155, u 156, u 157]), rfl, by omega, hI2, h9⟩
        · skip
          refine wp_seq_k (fun K102 hK102 => ?_)
          refine wl_region ?_
          refine wl_give rfl (g_ieq 3 _ _ .i64 (k) (0) false rfl rfl (decide_eq_false hk0) ?_)
          (try simp only [Act.put, List.setIfInBounds_toArray, List.set_cons_zero, List.set_cons_succ])
          refine wl_give rfl (g_assign _ (.bool false) rfl ?_)
          (try simp only [Act.put, List.setIfInBounds_toArray, List.set_cons_zero, List.set_cons_succ])
          refine wl_nil ?_
          refine hK102 _ _ ?_
          (try clear hK102 K102)
          refine wp_cond_false rfl ?_
          refine wp_seq_k (fun K103 hK103 => ?_)
          refine wl_region ?_
          refine wl_give rfl (g_ieq 3 _ _ .i64 (k) (1) false rfl rfl (decide_eq_false hk1) ?_)
          (try simp only [Act.put, List.setIfInBounds_toArray, List.set_cons_zero, List.set_cons_succ])
          refine wl_give rfl (g_assign _ (.bool false) rfl ?_)
          (try simp only [Act.put, List.setIfInBounds_toArray, List.set_cons_zero, List.set_cons_succ])
          refine wl_nil ?_
          refine hK103 _ _ ?_
          (try clear hK103 K103)
          refine wp_cond_false rfl ?_
          refine wp_seq_k (fun K104 hK104 => ?_)
          refine wl_region ?_
          refine wl_give rfl (g_ieq 3 _ _ .i64 (k) (2) false rfl rfl (decide_eq_false hk2) ?_)
          (try simp only [Act.put, List.setIfInBounds_toArray, List.set_cons_zero, List.set_cons_succ])
          refine wl_give rfl (g_assign _ (.bool false) rfl ?_)
          (try simp only [Act.put, List.setIfInBounds_toArray, List.set_cons_zero, List.set_cons_succ])
          refine wl_nil ?_
          refine hK104 _ _ ?_
          (try clear hK104 K104)
          refine wp_cond_false rfl ?_
          refine wp_skip ?_
          refine hK27 _ _ ?_
          (try clear hK27 K27)
          have hI2 : Shut (Do (L) (d) (j + 1)) := ⟨do_same hI.out⟩
          obtain ⟨L2, hL2⟩ : ∃ L2, L2 = L := ⟨_, rfl⟩
          obtain ⟨d2, hd2⟩ : ∃ d2, d2 = d := ⟨_, rfl⟩
          have h9 := ((hM.up 2 rfl).up 2 rfl)
          have h10 : Ms w w26 [bf p7 (x) (slots) (d2) (L2), rb p10 ((x : Nat) : Int) slots (d2) (L2), blk (wr.heap.size) (([.int .i64 (k), .int .i64 (i), .string (s)] : List Value)) 32] := by rw [hL2, hd2]; exact h9
          rw [← hL2, ← hd2] at hI2
          clear hL2 hd2 h9 hM
          have hM := h10
          clear h10
          have hle2 := hI2.out.le
          refine wp_seq_k (fun K105 hK105 => ?_)
          refine wl_region ?_
          refine wl_give rfl (g_move _ (.pointer (some ⟨p7, 0, none⟩)) rfl ?_)
          (try simp only [Act.put, List.setIfInBounds_toArray, List.set_cons_zero, List.set_cons_succ])
          refine wl_give rfl (g_call 21 _ _ [.pointer (some ⟨p7, 0, none⟩)] (kf21 _ _) rfl ((to_row (ivals_any hM (by omega))).mono ?_))
          rintro e w106 ⟨o107, k108, rfl, h_⟩
          refine ⟨_, rfl, ?_⟩
          replace hM : Ms w w106 [row 3 1 (.slice o107 ((ivs (L2)).length) k108) ((ivs (L2)).length) ((ivs (L2)).map encZ), bf p7 (x) (slots) (d2) (L2), rb p10 ((x : Nat) : Int) slots (d2) (L2), blk (wr.heap.size) (([.int .i64 (k), .int .i64 (i), .string (s)] : List Value)) 32] := h_
          clear h_
          (try simp only [Act.put, List.setIfInBounds_toArray, List.set_cons_zero, List.set_cons_succ])
          refine wl_give rfl (g_move _ (.pointer (some ⟨p10, 0, none⟩)) rfl ?_)
          (try simp only [Act.put, List.setIfInBounds_toArray, List.set_cons_zero, List.set_cons_succ])
          refine wl_give rfl (g_call 22 _ _ [.pointer (some ⟨p10, 0, none⟩)] (kf22 _ _) rfl ((to_row (rivals_any (show Ms w w106 [rb p10 ((x : Nat) : Int) slots (d2) (L2), row 3 1 (.slice o107 ((ivs (L2)).length) k108) ((ivs (L2)).length) ((ivs (L2)).map encZ), bf p7 (x) (slots) (d2) (L2), blk (wr.heap.size) (([.int .i64 (k), .int .i64 (i), .string (s)] : List Value)) 32] from (hM.up 2 rfl)) (by omega))).mono ?_))
          rintro e w109 ⟨o110, k111, rfl, h_⟩
          refine ⟨_, rfl, ?_⟩
          replace hM : Ms w w109 [row 3 1 (.slice o110 ((ivs (L2)).length) k111) ((ivs (L2)).length) ((ivs (L2)).map encZ), rb p10 ((x : Nat) : Int) slots (d2) (L2), row 3 1 (.slice o107 ((ivs (L2)).length) k108) ((ivs (L2)).length) ((ivs (L2)).map encZ), bf p7 (x) (slots) (d2) (L2), blk (wr.heap.size) (([.int .i64 (k), .int .i64 (i), .string (s)] : List Value)) 32] := h_
          clear h_
          (try simp only [Act.put, List.setIfInBounds_toArray, List.set_cons_zero, List.set_cons_succ])
          refine wl_give rfl (g_assign _ (.slice o107 ((ivs (L2)).length) (k108)) rfl ?_)
          (try simp only [Act.put, List.setIfInBounds_toArray, List.set_cons_zero, List.set_cons_succ])
          refine wl_give rfl (g_assign _ (.slice o110 ((ivs (L2)).length) (k111)) rfl ?_)
          (try simp only [Act.put, List.setIfInBounds_toArray, List.set_cons_zero, List.set_cons_succ])
          refine wl_nil ?_
          refine hK105 _ _ ?_
          (try clear hK105 K105)
          refine wp_seq_k (fun K112 hK112 => ?_)
          obtain ⟨ao2, cap2, h9⟩ := rb_cut (hM.up 1 rfl)
          have hM : Ms w w109 [blk (p10) ([.int .i64 (((x : Nat) : Int)), .int .i64 (slots), .int .i64 (d2), .slice ao2 ((L2).length) (cap2)]) 44, row 64 2 (.slice ao2 (L2).length cap2) ((L2).length) (tcs (L2)), row 3 1 (.slice o110 ((ivs (L2)).length) k111) ((ivs (L2)).length) ((ivs (L2)).map encZ), row 3 1 (.slice o107 ((ivs (L2)).length) k108) ((ivs (L2)).length) ((ivs (L2)).map encZ), bf p7 (x) (slots) (d2) (L2), blk (wr.heap.size) (([.int .i64 (k), .int .i64 (i), .string (s)] : List Value)) 32] := h9
          clear h9
          refine wp_seq_k (fun K113 hK113 => ?_)
          (try simp only [List.append_eq, List.cons_append, List.nil_append])
          refine wp_region_steps (by kernel_rfl) (by kernel_rfl) [36] [0, 0, 0, 0, 0, 0, 0, 0, 0, 0, 0, 0, 0, 0, 0, 0, 0, 0, 0, 0, 0, 0, 0, 0, 0, 0, 0, 0, 0, 0, 0, 0, 0, 0, 0, 0, 0, 1, 1] [1, 1, 1, 1, 1, 1, 1, 1, 1, 1, 1, 1, 1, 1, 1, 1, 1, 1, 1, 1, 1, 1, 1, 1, 0, 1, 1, 1, 1, 1, 0, 0, 1, 0, 1, 0, 1, 1, 1] (by kernel_rfl) (Pm := Unit) (fun π => [.slice o107 ((ivs (L2)).length) (k108), .int .i64 ((((ivs (L2)).length : Nat) : Int)), .slice o110 ((ivs (L2)).length) (k111), .int .i64 ((((ivs (L2)).length : Nat) : Int)), .bool false, .bool false, .pointer (some ⟨p7, 0, none⟩), .int .i64 ((((L2).length : Nat) : Int)), .pointer (some ⟨p10, 0, none⟩), .pointer (some ⟨p10, 0, none⟩), .pointer (some ⟨p10, 3, none⟩), .slice ao2 ((L2).length) (cap2), .int .i64 ((((L2).length : Nat) : Int)), .bool false, .bool false, .bool false, .pointer (some ⟨p7, 0, none⟩), .int .i64 (d2), .pointer (some ⟨p10, 0, none⟩), .pointer (some ⟨p10, 0, none⟩), .pointer (some ⟨p10, 2, none⟩), .int .i64 (d2), .bool false, .bool false, .bool false, .pointer (some ⟨p7, 0, none⟩), .pointer (some ⟨wr.heap.size, 1, none⟩), .int .i64 (i), .pointer (some ⟨wr.heap.size, 2, none⟩), .string (s), .bool (hasT i s (L2)), .pointer (some ⟨p10, 0, none⟩), .pointer (some ⟨wr.heap.size, 1, none⟩), .int .i64 (i), .pointer (some ⟨wr.heap.size, 2, none⟩), .string (s), .bool (hasT i s (L2)), .bool false, .bool false]) (fun _ => by rfl) (fun j_ π wx => match j_ with | 0 => Ms w wx [blk (p10) ([.int .i64 (((x : Nat) : Int)), .int .i64 (slots), .int .i64 (d2), .slice ao2 ((L2).length) (cap2)]) 44, row 64 2 (.slice ao2 (L2).length cap2) ((L2).length) (tcs (L2)), row 3 1 (.slice o110 ((ivs (L2)).length) k111) ((ivs (L2)).length) ((ivs (L2)).map encZ), row 3 1 (.slice o107 ((ivs (L2)).length) k108) ((ivs (L2)).length) ((ivs (L2)).map encZ), bf p7 (x) (slots) (d2) (L2), blk (wr.heap.size) (([.int .i64 (k), .int .i64 (i), .string (s)] : List Value)) 32] | _ => Ms w wx [blk (p10) ([.int .i64 (((x : Nat) : Int)), .int .i64 (slots), .int .i64 (d2), .slice ao2 ((L2).length) (cap2)]) 44, row 64 2 (.slice ao2 (L2).length cap2) ((L2).length) (tcs (L2)), row 3 1 (.slice o110 ((ivs (L2)).length) k111) ((ivs (L2)).length) ((ivs (L2)).map encZ), row 3 1 (.slice o107 ((ivs (L2)).length) k108) ((ivs (L2)).length) ((ivs (L2)).map encZ), bf p7 (x) (slots) (d2) (L2), blk (wr.heap.size) (([.int .i64 (k), .int .i64 (i), .string (s)] : List Value)) 32]) () hM.drew ?_ ?_ ?_
          · intro j_ k_ o_ hj_ ho_ π wx hM
            rcases j_ with _ | j_
            · obtain rfl := Option.some.inj hj_
              obtain rfl := Option.some.inj ho_
              simp only [fullL, Act.put, List.setIfInBounds_toArray, List.set_cons_succ, List.set_cons_zero]
              replace hM : Ms w wx [blk (p10) ([.int .i64 (((x : Nat) : Int)), .int .i64 (slots), .int .i64 (d2), .slice ao2 ((L2).length) (cap2)]) 44, row 64 2 (.slice ao2 (L2).length cap2) ((L2).length) (tcs (L2)), row 3 1 (.slice o110 ((ivs (L2)).length) k111) ((ivs (L2)).length) ((ivs (L2)).map encZ), row 3 1 (.slice o107 ((ivs (L2)).length) k108) ((ivs (L2)).length) ((ivs (L2)).map encZ), bf p7 (x) (slots) (d2) (L2), blk (wr.heap.size) (([.int .i64 (k), .int .i64 (i), .string (s)] : List Value)) 32] := hM
              exact gw rfl (g_call 26 _ _ [.pointer (some ⟨p10, 0, none⟩), .int .i64 (i), .string (s)] (kf26 _ _) rfl ((rhas_op (show Ms w wx [blk (p10) ([.int .i64 (((x : Nat) : Int)), .int .i64 (slots), .int .i64 (d2), .slice ao2 ((L2).length) (cap2)]) 44, row 64 2 (.slice ao2 (L2).length cap2) ((L2).length) (tcs (L2)), row 3 1 (.slice o110 ((ivs (L2)).length) k111) ((ivs (L2)).length) ((ivs (L2)).map encZ), row 3 1 (.slice o107 ((ivs (L2)).length) k108) ((ivs (L2)).length) ((ivs (L2)).map encZ), bf p7 (x) (slots) (d2) (L2), blk (wr.heap.size) (([.int .i64 (k), .int .i64 (i), .string (s)] : List Value)) 32] from ((hM.up 1 rfl).up 1 rfl)) (by omega)).mono (fun e w' ⟨h1_, h2_⟩ => ⟨_, h1_, ⟨(), rfl, (fun _ _ _ => by first | rfl | trivial), h2_⟩⟩)))
            · simp at hj_
          · intro i_ o_ ho_ hi_ j_ hd_ hh_ hj_ π wx hM
            simp only [fullL, Act.put, List.setIfInBounds_toArray, List.set_cons_succ, List.set_cons_zero]
            rcases i_ with _ | _ | _ | _ | _ | _ | _ | _ | _ | _ | _ | _ | _ | _ | _ | _ | _ | _ | _ | _ | _ | _ | _ | _ | _ | _ | _ | _ | _ | _ | _ | _ | _ | _ | _ | _ | _ | _ | _ | i_
            · obtain rfl := Option.some.inj ho_
              exact gw rfl (g_move _ (.slice o107 ((ivs (L2)).length) (k108)) rfl ⟨rfl, hM⟩)
            · obtain rfl := Option.some.inj ho_
              exact gw rfl (g_len _ 39 3 (o107) ((ivs (L2)).length) (k108) ((((ivs (L2)).length : Nat) : Int)) Try.underlying39 rfl rfl ⟨rfl, hM⟩)
            · obtain rfl := Option.some.inj ho_
              exact gw rfl (g_move _ (.slice o110 ((ivs (L2)).length) (k111)) rfl ⟨rfl, hM⟩)
            · obtain rfl := Option.some.inj ho_
              exact gw rfl (g_len _ 39 3 (o110) ((ivs (L2)).length) (k111) ((((ivs (L2)).length : Nat) : Int)) Try.underlying39 rfl rfl ⟨rfl, hM⟩)
            · obtain rfl := Option.some.inj ho_
              exact gw rfl (g_ine 3 _ _ .i64 ((((ivs (L2)).length : Nat) : Int)) ((((ivs (L2)).length : Nat) : Int)) false rfl rfl (decide_eq_false (fun h => h rfl)) ⟨rfl, hM⟩)
            · obtain rfl := Option.some.inj ho_
              exact gw rfl (g_move _ (.bool false) rfl ⟨rfl, hM⟩)
            · obtain rfl := Option.some.inj ho_
              exact gw rfl (g_move _ (.pointer (some ⟨p7, 0, none⟩)) rfl ⟨rfl, hM⟩)
            · obtain rfl := Option.some.inj ho_
              rcases j_ with _ | _ | j_
              · replace hM : Ms w wx [blk (p10) ([.int .i64 (((x : Nat) : Int)), .int .i64 (slots), .int .i64 (d2), .slice ao2 ((L2).length) (cap2)]) 44, row 64 2 (.slice ao2 (L2).length cap2) ((L2).length) (tcs (L2)), row 3 1 (.slice o110 ((ivs (L2)).length) k111) ((ivs (L2)).length) ((ivs (L2)).map encZ), row 3 1 (.slice o107 ((ivs (L2)).length) k108) ((ivs (L2)).length) ((ivs (L2)).map encZ), bf p7 (x) (slots) (d2) (L2), blk (wr.heap.size) (([.int .i64 (k), .int .i64 (i), .string (s)] : List Value)) 32] := hM
                exact gw rfl (g_call 23 _ _ [.pointer (some ⟨p7, 0, none⟩)] (kf23 _ _) rfl ((keep1 4 rfl (fun R_ h_ => size_v (n := (((L2).length : Nat) : Int)) h_ (by omega) (rfl)) hM).mono (fun _ _ ⟨h1_, h2_⟩ => ⟨_, h1_, rfl, h2_⟩)))
              · replace hM : Ms w wx [blk (p10) ([.int .i64 (((x : Nat) : Int)), .int .i64 (slots), .int .i64 (d2), .slice ao2 ((L2).length) (cap2)]) 44, row 64 2 (.slice ao2 (L2).length cap2) ((L2).length) (tcs (L2)), row 3 1 (.slice o110 ((ivs (L2)).length) k111) ((ivs (L2)).length) ((ivs (L2)).map encZ), row 3 1 (.slice o107 ((ivs (L2)).length) k108) ((ivs (L2)).length) ((ivs (L2)).map encZ), bf p7 (x) (slots) (d2) (L2), blk (wr.heap.size) (([.int .i64 (k), .int .i64 (i), .string (s)] : List Value)) 32] := hM
                exact gw rfl (g_call 23 _ _ [.pointer (some ⟨p7, 0, none⟩)] (kf23 _ _) rfl ((keep1 4 rfl (fun R_ h_ => size_v (n := (((L2).length : Nat) : Int)) h_ (by omega) (rfl)) hM).mono (fun _ _ ⟨h1_, h2_⟩ => ⟨_, h1_, rfl, h2_⟩)))
              · exact absurd hj_ (by simp)
            · obtain rfl := Option.some.inj ho_
              exact gw rfl (g_move _ (.pointer (some ⟨p10, 0, none⟩)) rfl ⟨rfl, hM⟩)
            · obtain rfl := Option.some.inj ho_
              exact gw rfl (g_nil _ ⟨p10, 0, none⟩ rfl ⟨rfl, hM⟩)
            · obtain rfl := Option.some.inj ho_
              exact gw rfl (g_fa 44 _ (p10) (0) (3) 3 rfl (fa44_3 _ _ _) ⟨rfl, hM⟩)
            · obtain rfl := Option.some.inj ho_
              rcases j_ with _ | _ | j_
              · replace hM : Ms w wx [blk (p10) ([.int .i64 (((x : Nat) : Int)), .int .i64 (slots), .int .i64 (d2), .slice ao2 ((L2).length) (cap2)]) 44, row 64 2 (.slice ao2 (L2).length cap2) ((L2).length) (tcs (L2)), row 3 1 (.slice o110 ((ivs (L2)).length) k111) ((ivs (L2)).length) ((ivs (L2)).map encZ), row 3 1 (.slice o107 ((ivs (L2)).length) k108) ((ivs (L2)).length) ((ivs (L2)).map encZ), bf p7 (x) (slots) (d2) (L2), blk (wr.heap.size) (([.int .i64 (k), .int .i64 (i), .string (s)] : List Value)) 32] := hM
                exact gw rfl (g_ld1 42 _ (p10) 3 _ rfl (ld42 _ _ _ _ ((hM.get 0 rfl).cell 3 _ rfl)) ⟨rfl, hM⟩)
              · replace hM : Ms w wx [blk (p10) ([.int .i64 (((x : Nat) : Int)), .int .i64 (slots), .int .i64 (d2), .slice ao2 ((L2).length) (cap2)]) 44, row 64 2 (.slice ao2 (L2).length cap2) ((L2).length) (tcs (L2)), row 3 1 (.slice o110 ((ivs (L2)).length) k111) ((ivs (L2)).length) ((ivs (L2)).map encZ), row 3 1 (.slice o107 ((ivs (L2)).length) k108) ((ivs (L2)).length) ((ivs (L2)).map encZ), bf p7 (x) (slots) (d2) (L2), blk (wr.heap.size) (([.int .i64 (k), .int .i64 (i), .string (s)] : List Value)) 32] := hM
                exact gw rfl (g_ld1 42 _ (p10) 3 _ rfl (ld42 _ _ _ _ ((hM.get 0 rfl).cell 3 _ rfl)) ⟨rfl, hM⟩)
              · exact absurd hj_ (by simp)
            · obtain rfl := Option.some.inj ho_
              exact gw rfl (g_len _ 42 64 (ao2) ((L2).length) (cap2) ((((L2).length : Nat) : Int)) Try.underlying42 rfl rfl ⟨rfl, hM⟩)
            · obtain rfl := Option.some.inj ho_
              exact gw rfl (g_ine 3 _ _ .i64 ((((L2).length : Nat) : Int)) ((((L2).length : Nat) : Int)) false rfl rfl (decide_eq_false (fun h => h rfl)) ⟨rfl, hM⟩)
            · obtain rfl := Option.some.inj ho_
              exact gw rfl (g_pickf _ _ _ (.bool false) rfl rfl ⟨rfl, hM⟩)
            · obtain rfl := Option.some.inj ho_
              exact gw rfl (g_move _ (.bool false) rfl ⟨rfl, hM⟩)
            · obtain rfl := Option.some.inj ho_
              exact gw rfl (g_move _ (.pointer (some ⟨p7, 0, none⟩)) rfl ⟨rfl, hM⟩)
            · obtain rfl := Option.some.inj ho_
              rcases j_ with _ | _ | j_
              · replace hM : Ms w wx [blk (p10) ([.int .i64 (((x : Nat) : Int)), .int .i64 (slots), .int .i64 (d2), .slice ao2 ((L2).length) (cap2)]) 44, row 64 2 (.slice ao2 (L2).length cap2) ((L2).length) (tcs (L2)), row 3 1 (.slice o110 ((ivs (L2)).length) k111) ((ivs (L2)).length) ((ivs (L2)).map encZ), row 3 1 (.slice o107 ((ivs (L2)).length) k108) ((ivs (L2)).length) ((ivs (L2)).map encZ), bf p7 (x) (slots) (d2) (L2), blk (wr.heap.size) (([.int .i64 (k), .int .i64 (i), .string (s)] : List Value)) 32] := hM
                exact gw rfl (g_call 24 _ _ [.pointer (some ⟨p7, 0, none⟩)] (kf24 _ _) rfl ((keep1 4 rfl (fun R_ h_ => dropped_any h_) hM).mono (fun _ _ ⟨h1_, h2_⟩ => ⟨_, h1_, rfl, h2_⟩)))
              · replace hM : Ms w wx [blk (p10) ([.int .i64 (((x : Nat) : Int)), .int .i64 (slots), .int .i64 (d2), .slice ao2 ((L2).length) (cap2)]) 44, row 64 2 (.slice ao2 (L2).length cap2) ((L2).length) (tcs (L2)), row 3 1 (.slice o110 ((ivs (L2)).length) k111) ((ivs (L2)).length) ((ivs (L2)).map encZ), row 3 1 (.slice o107 ((ivs (L2)).length) k108) ((ivs (L2)).length) ((ivs (L2)).map encZ), bf p7 (x) (slots) (d2) (L2), blk (wr.heap.size) (([.int .i64 (k), .int .i64 (i), .string (s)] : List Value)) 32] := hM
                exact gw rfl (g_call 24 _ _ [.pointer (some ⟨p7, 0, none⟩)] (kf24 _ _) rfl ((keep1 4 rfl (fun R_ h_ => dropped_any h_) hM).mono (fun _ _ ⟨h1_, h2_⟩ => ⟨_, h1_, rfl, h2_⟩)))
              · exact absurd hj_ (by simp)
            · obtain rfl := Option.some.inj ho_
              exact gw rfl (g_move _ (.pointer (some ⟨p10, 0, none⟩)) rfl ⟨rfl, hM⟩)
            · obtain rfl := Option.some.inj ho_
              exact gw rfl (g_nil _ ⟨p10, 0, none⟩ rfl ⟨rfl, hM⟩)
            · obtain rfl := Option.some.inj ho_
              exact gw rfl (g_fa 44 _ (p10) (0) (2) 2 rfl (fa44_2 _ _ _) ⟨rfl, hM⟩)
            · obtain rfl := Option.some.inj ho_
              rcases j_ with _ | _ | j_
              · replace hM : Ms w wx [blk (p10) ([.int .i64 (((x : Nat) : Int)), .int .i64 (slots), .int .i64 (d2), .slice ao2 ((L2).length) (cap2)]) 44, row 64 2 (.slice ao2 (L2).length cap2) ((L2).length) (tcs (L2)), row 3 1 (.slice o110 ((ivs (L2)).length) k111) ((ivs (L2)).length) ((ivs (L2)).map encZ), row 3 1 (.slice o107 ((ivs (L2)).length) k108) ((ivs (L2)).length) ((ivs (L2)).map encZ), bf p7 (x) (slots) (d2) (L2), blk (wr.heap.size) (([.int .i64 (k), .int .i64 (i), .string (s)] : List Value)) 32] := hM
                exact gw rfl (g_ld1 3 _ (p10) 2 _ rfl (ld3 _ _ _ _ ((hM.get 0 rfl).cell 2 _ rfl)) ⟨rfl, hM⟩)
              · replace hM : Ms w wx [blk (p10) ([.int .i64 (((x : Nat) : Int)), .int .i64 (slots), .int .i64 (d2), .slice ao2 ((L2).length) (cap2)]) 44, row 64 2 (.slice ao2 (L2).length cap2) ((L2).length) (tcs (L2)), row 3 1 (.slice o110 ((ivs (L2)).length) k111) ((ivs (L2)).length) ((ivs (L2)).map encZ), row 3 1 (.slice o107 ((ivs (L2)).length) k108) ((ivs (L2)).length) ((ivs (L2)).map encZ), bf p7 (x) (slots) (d2) (L2), blk (wr.heap.size) (([.int .i64 (k), .int .i64 (i), .string (s)] : List Value)) 32] := hM
                exact gw rfl (g_ld1 3 _ (p10) 2 _ rfl (ld3 _ _ _ _ ((hM.get 0 rfl).cell 2 _ rfl)) ⟨rfl, hM⟩)
              · exact absurd hj_ (by simp)
            · obtain rfl := Option.some.inj ho_
              exact gw rfl (g_ine 3 _ _ .i64 (d2) (d2) false rfl rfl (decide_eq_false (fun h => h rfl)) ⟨rfl, hM⟩)
            · obtain rfl := Option.some.inj ho_
              exact gw rfl (g_pickf _ _ _ (.bool false) rfl rfl ⟨rfl, hM⟩)
            · obtain rfl := Option.some.inj ho_
              exact gw rfl (g_move _ (.bool false) rfl ⟨rfl, hM⟩)
            · obtain rfl := Option.some.inj ho_
              exact gw rfl (g_move _ (.pointer (some ⟨p7, 0, none⟩)) rfl ⟨rfl, hM⟩)
            · obtain rfl := Option.some.inj ho_
              exact gw rfl (g_fa 32 _ (wr.heap.size) (0) (1) 1 rfl (fa32_1 _ _ _) ⟨rfl, hM⟩)
            · obtain rfl := Option.some.inj ho_
              rcases j_ with _ | _ | j_
              · replace hM : Ms w wx [blk (p10) ([.int .i64 (((x : Nat) : Int)), .int .i64 (slots), .int .i64 (d2), .slice ao2 ((L2).length) (cap2)]) 44, row 64 2 (.slice ao2 (L2).length cap2) ((L2).length) (tcs (L2)), row 3 1 (.slice o110 ((ivs (L2)).length) k111) ((ivs (L2)).length) ((ivs (L2)).map encZ), row 3 1 (.slice o107 ((ivs (L2)).length) k108) ((ivs (L2)).length) ((ivs (L2)).map encZ), bf p7 (x) (slots) (d2) (L2), blk (wr.heap.size) (([.int .i64 (k), .int .i64 (i), .string (s)] : List Value)) 32] := hM
                exact gw rfl (g_ld1 3 _ (wr.heap.size) 1 _ rfl (ld3 _ _ _ _ ((hM.get 5 rfl).cell 1 _ rfl)) ⟨rfl, hM⟩)
              · replace hM : Ms w wx [blk (p10) ([.int .i64 (((x : Nat) : Int)), .int .i64 (slots), .int .i64 (d2), .slice ao2 ((L2).length) (cap2)]) 44, row 64 2 (.slice ao2 (L2).length cap2) ((L2).length) (tcs (L2)), row 3 1 (.slice o110 ((ivs (L2)).length) k111) ((ivs (L2)).length) ((ivs (L2)).map encZ), row 3 1 (.slice o107 ((ivs (L2)).length) k108) ((ivs (L2)).length) ((ivs (L2)).map encZ), bf p7 (x) (slots) (d2) (L2), blk (wr.heap.size) (([.int .i64 (k), .int .i64 (i), .string (s)] : List Value)) 32] := hM
                exact gw rfl (g_ld1 3 _ (wr.heap.size) 1 _ rfl (ld3 _ _ _ _ ((hM.get 5 rfl).cell 1 _ rfl)) ⟨rfl, hM⟩)
              · exact absurd hj_ (by simp)
            · obtain rfl := Option.some.inj ho_
              exact gw rfl (g_fa 32 _ (wr.heap.size) (0) (2) 2 rfl (fa32_2 _ _ _) ⟨rfl, hM⟩)
            · obtain rfl := Option.some.inj ho_
              rcases j_ with _ | _ | j_
              · replace hM : Ms w wx [blk (p10) ([.int .i64 (((x : Nat) : Int)), .int .i64 (slots), .int .i64 (d2), .slice ao2 ((L2).length) (cap2)]) 44, row 64 2 (.slice ao2 (L2).length cap2) ((L2).length) (tcs (L2)), row 3 1 (.slice o110 ((ivs (L2)).length) k111) ((ivs (L2)).length) ((ivs (L2)).map encZ), row 3 1 (.slice o107 ((ivs (L2)).length) k108) ((ivs (L2)).length) ((ivs (L2)).map encZ), bf p7 (x) (slots) (d2) (L2), blk (wr.heap.size) (([.int .i64 (k), .int .i64 (i), .string (s)] : List Value)) 32] := hM
                exact gw rfl (g_ld1 9 _ (wr.heap.size) 2 _ rfl (ld9 _ _ _ _ ((hM.get 5 rfl).cell 2 _ rfl)) ⟨rfl, hM⟩)
              · replace hM : Ms w wx [blk (p10) ([.int .i64 (((x : Nat) : Int)), .int .i64 (slots), .int .i64 (d2), .slice ao2 ((L2).length) (cap2)]) 44, row 64 2 (.slice ao2 (L2).length cap2) ((L2).length) (tcs (L2)), row 3 1 (.slice o110 ((ivs (L2)).length) k111) ((ivs (L2)).length) ((ivs (L2)).map encZ), row 3 1 (.slice o107 ((ivs (L2)).length) k108) ((ivs (L2)).length) ((ivs (L2)).map encZ), bf p7 (x) (slots) (d2) (L2), blk (wr.heap.size) (([.int .i64 (k), .int .i64 (i), .string (s)] : List Value)) 32] := hM
                exact gw rfl (g_ld1 9 _ (wr.heap.size) 2 _ rfl (ld9 _ _ _ _ ((hM.get 5 rfl).cell 2 _ rfl)) ⟨rfl, hM⟩)
              · exact absurd hj_ (by simp)
            · obtain rfl := Option.some.inj ho_
              rcases j_ with _ | _ | j_
              · replace hM : Ms w wx [blk (p10) ([.int .i64 (((x : Nat) : Int)), .int .i64 (slots), .int .i64 (d2), .slice ao2 ((L2).length) (cap2)]) 44, row 64 2 (.slice ao2 (L2).length cap2) ((L2).length) (tcs (L2)), row 3 1 (.slice o110 ((ivs (L2)).length) k111) ((ivs (L2)).length) ((ivs (L2)).map encZ), row 3 1 (.slice o107 ((ivs (L2)).length) k108) ((ivs (L2)).length) ((ivs (L2)).map encZ), bf p7 (x) (slots) (d2) (L2), blk (wr.heap.size) (([.int .i64 (k), .int .i64 (i), .string (s)] : List Value)) 32] := hM
                exact gw rfl (g_call 25 _ _ [.pointer (some ⟨p7, 0, none⟩), .int .i64 (i), .string (s)] (kf25 _ _) rfl ((keep1 4 rfl (fun R_ h_ => has_v (r := hasT i s (L2)) h_ (by omega) rfl) hM).mono (fun _ _ ⟨h1_, h2_⟩ => ⟨_, h1_, rfl, h2_⟩)))
              · exact absurd hh_ (by decide)
              · exact absurd hj_ (by simp)
            · obtain rfl := Option.some.inj ho_
              exact gw rfl (g_move _ (.pointer (some ⟨p10, 0, none⟩)) rfl ⟨rfl, hM⟩)
            · obtain rfl := Option.some.inj ho_
              exact gw rfl (g_fa 32 _ (wr.heap.size) (0) (1) 1 rfl (fa32_1 _ _ _) ⟨rfl, hM⟩)
            · obtain rfl := Option.some.inj ho_
              rcases j_ with _ | _ | j_
              · replace hM : Ms w wx [blk (p10) ([.int .i64 (((x : Nat) : Int)), .int .i64 (slots), .int .i64 (d2), .slice ao2 ((L2).length) (cap2)]) 44, row 64 2 (.slice ao2 (L2).length cap2) ((L2).length) (tcs (L2)), row 3 1 (.slice o110 ((ivs (L2)).length) k111) ((ivs (L2)).length) ((ivs (L2)).map encZ), row 3 1 (.slice o107 ((ivs (L2)).length) k108) ((ivs (L2)).length) ((ivs (L2)).map encZ), bf p7 (x) (slots) (d2) (L2), blk (wr.heap.size) (([.int .i64 (k), .int .i64 (i), .string (s)] : List Value)) 32] := hM
                exact gw rfl (g_ld1 3 _ (wr.heap.size) 1 _ rfl (ld3 _ _ _ _ ((hM.get 5 rfl).cell 1 _ rfl)) ⟨rfl, hM⟩)
              · exact absurd hh_ (by decide)
              · exact absurd hj_ (by simp)
            · obtain rfl := Option.some.inj ho_
              exact gw rfl (g_fa 32 _ (wr.heap.size) (0) (2) 2 rfl (fa32_2 _ _ _) ⟨rfl, hM⟩)
            · obtain rfl := Option.some.inj ho_
              rcases j_ with _ | _ | j_
              · replace hM : Ms w wx [blk (p10) ([.int .i64 (((x : Nat) : Int)), .int .i64 (slots), .int .i64 (d2), .slice ao2 ((L2).length) (cap2)]) 44, row 64 2 (.slice ao2 (L2).length cap2) ((L2).length) (tcs (L2)), row 3 1 (.slice o110 ((ivs (L2)).length) k111) ((ivs (L2)).length) ((ivs (L2)).map encZ), row 3 1 (.slice o107 ((ivs (L2)).length) k108) ((ivs (L2)).length) ((ivs (L2)).map encZ), bf p7 (x) (slots) (d2) (L2), blk (wr.heap.size) (([.int .i64 (k), .int .i64 (i), .string (s)] : List Value)) 32] := hM
                exact gw rfl (g_ld1 9 _ (wr.heap.size) 2 _ rfl (ld9 _ _ _ _ ((hM.get 5 rfl).cell 2 _ rfl)) ⟨rfl, hM⟩)
              · exact absurd hh_ (by decide)
              · exact absurd hj_ (by simp)
            · exact absurd (by decide) hi_
            · obtain rfl := Option.some.inj ho_
              exact gw rfl (g_bne _ _ (hasT i s (L2)) (hasT i s (L2)) false rfl rfl (by simp) ⟨rfl, hM⟩)
            · obtain rfl := Option.some.inj ho_
              exact gw rfl (g_pickf _ _ _ (.bool false) rfl rfl ⟨rfl, hM⟩)
            · simp at ho_
          · simp only [fullL, Act.put, List.setIfInBounds_toArray, List.set_cons_succ, List.set_cons_zero]
            rintro ⟨⟩ w114 hM
            replace hM : Ms w w114 [blk (p10) ([.int .i64 (((x : Nat) : Int)), .int .i64 (slots), .int .i64 (d2), .slice ao2 ((L2).length) (cap2)]) 44, row 64 2 (.slice ao2 (L2).length cap2) ((L2).length) (tcs (L2)), row 3 1 (.slice o110 ((ivs (L2)).length) k111) ((ivs (L2)).length) ((ivs (L2)).map encZ), row 3 1 (.slice o107 ((ivs (L2)).length) k108) ((ivs (L2)).length) ((ivs (L2)).map encZ), bf p7 (x) (slots) (d2) (L2), blk (wr.heap.size) (([.int .i64 (k), .int .i64 (i), .string (s)] : List Value)) 32] := hM
            refine hK113 _ _ ?_
            (try clear hK113 K113)
            refine wp_cond_false rfl ?_
            refine wp_skip ?_
            refine hK112 _ _ ?_
            (try clear hK112 K112)
            refine wp_seq_k (fun K115 hK115 => ?_)
            refine wl_region ?_
            refine wl_give rfl (g_move _ (.slice o107 ((ivs (L2)).length) (k108)) rfl ?_)
            (try simp only [Act.put, List.setIfInBounds_toArray, List.set_cons_zero, List.set_cons_succ])
            refine wl_give rfl (g_len _ 39 3 (o107) ((ivs (L2)).length) (k108) ((((ivs (L2)).length : Nat) : Int)) Try.underlying39 rfl rfl ?_)
            (try simp only [Act.put, List.setIfInBounds_toArray, List.set_cons_zero, List.set_cons_succ])
            refine wl_give rfl (g_move _ (.int .i64 (0)) rfl ?_)
            (try simp only [Act.put, List.setIfInBounds_toArray, List.set_cons_zero, List.set_cons_succ])
            refine wl_nil ?_
            refine hK115 _ _ ?_
            (try clear hK115 K115)
            refine wp_block ?_
            have h9 := ((((((hM.up 5 rfl).up 5 rfl).up 3 rfl).up 3 rfl).up 4 rfl).up 5 rfl)
            have hivl : (ivs (L2)).length ≤ 101 := Nat.le_trans (ivs_le _) (by omega)
            refine wp_rounds (fun m2 st wr2 => ∃ (e : Nat) (u : Nat → Value), st = ⟨#[.int .i64 (((x : Nat) : Int)), .int .i64 (slots), .slice (some ⟨b, o, none⟩) (n) (cap), undef, undef, undef, .bool false, .pointer (some ⟨p7, 0, none⟩), .int .i64 (0), .pointer (some ⟨p10, 0, none⟩), .int .i64 (0), .int .i64 (((j : Nat) : Int)), .pointer (some ⟨wr.heap.size, 0, none⟩), .slice o107 ((ivs (L2)).length) (k108), .slice o110 ((ivs (L2)).length) (k111), u 15, t 16, t 17, t 18, t 19, t 20, t 21, t 22, t 23, t 24, t 25, t 26, t 27, t 28, t 29, t 30, t 31, t 32, t 33, t 34, t 35, t 36, t 37, t 38, t 39, .int .i64 (((j : Nat) : Int)), .slice (some ⟨b, o, none⟩) (n) (cap), .int .i64 (((n : Nat) : Int)), .bool true, .bool true, .int .i64 (((j : Nat) : Int)), .bool true, .bool true, .bool true, .pointer (some ⟨p10, 0, none⟩), .bool true, .bool true, t 52, t 53, .slice (some ⟨b, o, none⟩) (n) (cap), .int .i64 (((j : Nat) : Int)), .pointer (some ⟨b, o + j * 3, none⟩), .agg (([.int .i64 (k), .int .i64 (i), .string (s)] : List Value)).toArray, .agg (([.int .i64 (k), .int .i64 (i), .string (s)] : List Value)).toArray, .bool false, .pointer (some ⟨wr.heap.size, 0, none⟩), .int .i64 (k), .bool false, .bool false, t 64, t 65, t 66, t 67, t 68, t 69, t 70, t 71, t 72, t 73, t 74, t 75, t 76, .bool false, .bool false, t 79, t 80, t 81, t 82, t 83, t 84, t 85, t 86, t 87, t 88, .bool false, .bool false, t 91, t 92, t 93, t 94, t 95, t 96, t 97, t 98, t 99, .pointer (some ⟨p7, 0, none⟩), .slice o107 ((ivs (L2)).length) (k108), .pointer (some ⟨p10, 0, none⟩), .slice o110 ((ivs (L2)).length) (k111), .slice o107 ((ivs (L2)).length) (k108), .int .i64 ((((ivs (L2)).length : Nat) : Int)), .slice o110 ((ivs (L2)).length) (k111), .int .i64 ((((ivs (L2)).length : Nat) : Int)), .bool false, .bool false, .pointer (some ⟨p7, 0, none⟩), .int .i64 ((((L2).length : Nat) : Int)), .pointer (some ⟨p10, 0, none⟩), .pointer (some ⟨p10, 0, none⟩), .pointer (some ⟨p10, 3, none⟩), .slice ao2 ((L2).length) (cap2), .int .i64 ((((L2).length : Nat) : Int)), .bool false, .bool false, .bool false, .pointer (some ⟨p7, 0, none⟩), .int .i64 (d2), .pointer (some ⟨p10, 0, none⟩), .pointer (some ⟨p10, 0, none⟩), .pointer (some ⟨p10, 2, none⟩), .int .i64 (d2), .bool false, .bool false, .bool false, .pointer (some ⟨p7, 0, none⟩), .pointer (some ⟨wr.heap.size, 1, none⟩), .int .i64 (i), .pointer (some ⟨wr.heap.size, 2, none⟩), .string (s), .bool (hasT i s (L2)), .pointer (some ⟨p10, 0, none⟩), .pointer (some ⟨wr.heap.size, 1, none⟩), .int .i64 (i), .pointer (some ⟨wr.heap.size, 2, none⟩), .string (s), .bool (hasT i s (L2)), .bool false, .bool false, .slice o107 ((ivs (L2)).length) (k108), .int .i64 ((((ivs (L2)).length : Nat) : Int)), .int .i64 ((e : Nat) : Int), u 146, u 147, u 148, u 149, u 150, u 151, u 152, u 153, u 154, u 155, u 156, u 157], []⟩ ∧ e + m2 = (ivs (L2)).length ∧ Ms w wr2 [row 3 1 (.slice o107 ((ivs (L2)).length) k108) ((ivs (L2)).length) ((ivs (L2)).map encZ), row 3 1 (.slice o110 ((ivs (L2)).length) k111) ((ivs (L2)).length) ((ivs (L2)).map encZ), blk (p10) ([.int .i64 (((x : Nat) : Int)), .int .i64 (slots), .int .i64 (d2), .slice ao2 ((L2).length) (cap2)]) 44, row 64 2 (.slice ao2 (L2).length cap2) ((L2).length) (tcs (L2)), bf p7 (x) (slots) (d2) (L2), blk (wr.heap.size) (([.int .i64 (k), .int .i64 (i), .string (s)] : List Value)) 32]) _ ⟨0, (tl [.int .i64 (((x : Nat) : Int)), .int .i64 (slots), .slice (some ⟨b, o, none⟩) (n) (cap), undef, undef, undef, .bool false, .pointer (some ⟨p7, 0, none⟩), .int .i64 (0), .pointer (some ⟨p10, 0, none⟩), .int .i64 (0), .int .i64 (((j : Nat) : Int)), .pointer (some ⟨wr.heap.size, 0, none⟩), .slice o107 ((ivs (L2)).length) (k108), .slice o110 ((ivs (L2)).length) (k111), t 15, t 16, t 17, t 18, t 19, t 20, t 21, t 22, t 23, t 24, t 25, t 26, t 27, t 28, t 29, t 30, t 31, t 32, t 33, t 34, t 35, t 36, t 37, t 38, t 39, .int .i64 (((j : Nat) : Int)), .slice (some ⟨b, o, none⟩) (n) (cap), .int .i64 (((n : Nat) : Int)), .bool true, .bool true, .int .i64 (((j : Nat) : Int)), .bool true, .bool true, .bool true, .pointer (some ⟨p10, 0, none⟩), .bool true, .bool true, t 52, t 53, .slice (some ⟨b, o, none⟩) (n) (cap), .int .i64 (((j : Nat) : Int)), .pointer (some ⟨b, o + j * 3, none⟩), .agg (([.int .i64 (k), .int .i64 (i), .string (s)] : List Value)).toArray, .agg (([.int .i64 (k), .int .i64 (i), .string (s)] : List Value)).toArray, .bool false, .pointer (some ⟨wr.heap.size, 0, none⟩), .int .i64 (k), .bool false, .bool false, t 64, t 65, t 66, t 67, t 68, t 69, t 70, t 71, t 72, t 73, t 74, t 75, t 76, .bool false, .bool false, t 79, t 80, t 81, t 82, t 83, t 84, t 85, t 86, t 87, t 88, .bool false, .bool false, t 91, t 92, t 93, t 94, t 95, t 96, t 97, t 98, t 99, .pointer (some ⟨p7, 0, none⟩), .slice o107 ((ivs (L2)).length) (k108), .pointer (some ⟨p10, 0, none⟩), .slice o110 ((ivs (L2)).length) (k111), .slice o107 ((ivs (L2)).length) (k108), .int .i64 ((((ivs (L2)).length : Nat) : Int)), .slice o110 ((ivs (L2)).length) (k111), .int .i64 ((((ivs (L2)).length : Nat) : Int)), .bool false, .bool false, .pointer (some ⟨p7, 0, none⟩), .int .i64 ((((L2).length : Nat) : Int)), .pointer (some ⟨p10, 0, none⟩), .pointer (some ⟨p10, 0, none⟩), .pointer (some ⟨p10, 3, none⟩), .slice ao2 ((L2).length) (cap2), .int .i64 ((((L2).length : Nat) : Int)), .bool false, .bool false, .bool false, .pointer (some ⟨p7, 0, none⟩), .int .i64 (d2), .pointer (some ⟨p10, 0, none⟩), .pointer (some ⟨p10, 0, none⟩), .pointer (some ⟨p10, 2, none⟩), .int .i64 (d2), .bool false, .bool false, .bool false, .pointer (some ⟨p7, 0, none⟩), .pointer (some ⟨wr.heap.size, 1, none⟩), .int .i64 (i), .pointer (some ⟨wr.heap.size, 2, none⟩), .string (s), .bool (hasT i s (L2)), .pointer (some ⟨p10, 0, none⟩), .pointer (some ⟨wr.heap.size, 1, none⟩), .int .i64 (i), .pointer (some ⟨wr.heap.size, 2, none⟩), .string (s), .bool (hasT i s (L2)), .bool false, .bool false, .slice o107 ((ivs (L2)).length) (k108), .int .i64 ((((ivs (L2)).length : Nat) : Int)), .int .i64 (0), t 146, t 147, t 148, t 149, t 150, t 151, t 152, t 153, t 154, t 155, t 156, t 157]), rfl, Nat.zero_add _, h9⟩ ?_
            clear hM h9
            rintro m2 st wr2 ⟨e, u, rfl, he, hM⟩
            by_cases h5 : ((e : Nat) : Int) < (((ivs (L2)).length : Nat) : Int)
            · skip
              have hel : e < (ivs (L2)).length := by omega
              obtain ⟨yy, hy⟩ : ∃ yy, (ivs (L2))[e]? = some yy := ⟨_, List.getElem?_eq_getElem hel⟩
              have he1 : Shut (IntKind.i64.wrap (((e : Nat) : Int) + 1) = ((e + 1 : Nat) : Int)) := ⟨by rw [wrap_id _ (by omega) (by omega)]; omega⟩
              obtain ⟨g1, c1, hv1, hM⟩ := row_sl hM (by omega)
              cases hv1
              obtain ⟨g2, c2, hv2, hM⟩ := row_sl (hM.up 1 rfl) (by omega)
              cases hv2
              replace hM : Ms w wr2 [sl 3 1 g2 k111 ((ivs (L2)).length) ((ivs (L2)).map encZ), sl 3 1 g1 k108 ((ivs (L2)).length) ((ivs (L2)).map encZ), blk (p10) ([.int .i64 (((x : Nat) : Int)), .int .i64 (slots), .int .i64 (d2), .slice ao2 ((L2).length) (cap2)]) 44, row 64 2 (.slice ao2 (L2).length cap2) ((L2).length) (tcs (L2)), bf p7 (x) (slots) (d2) (L2), blk (wr.heap.size) (([.int .i64 (k), .int .i64 (i), .string (s)] : List Value)) 32] := hM
              refine wp_seq_k (fun K116 hK116 => ?_)
              refine wl_region ?_
              refine wl_give rfl (g_ilss 3 _ _ .i64 (((e : Nat) : Int)) ((((ivs (L2)).length : Nat) : Int)) true rfl rfl (decide_eq_true h5) ?_)
              (try simp only [Act.put, List.setIfInBounds_toArray, List.set_cons_zero, List.set_cons_succ])
              refine wl_nil ?_
              refine hK116 _ _ ?_
              (try clear hK116 K116)
              refine wp_seq_k (fun K117 hK117 => ?_)
              refine wp_cond_true rfl ?_
              refine wp_skip ?_
              refine hK117 _ _ ?_
              (try clear hK117 K117)
              refine wp_seq_k (fun K118 hK118 => ?_)
              refine wp_block ?_
              refine wp_seq_k (fun K119 hK119 => ?_)
              refine wl_region ?_
              refine wl_give rfl (g_move _ (.int .i64 (((e : Nat) : Int))) rfl ?_)
              (try simp only [Act.put, List.setIfInBounds_toArray, List.set_cons_zero, List.set_cons_succ])
              refine wl_give rfl (g_assign _ (.int .i64 (((e : Nat) : Int))) rfl ?_)
              (try simp only [Act.put, List.setIfInBounds_toArray, List.set_cons_zero, List.set_cons_succ])
              refine wl_nil ?_
              refine hK119 _ _ ?_
              (try clear hK119 K119)
              refine wp_seq_k (fun K120 hK120 => ?_)
              refine wp_region_fixed (by kernel_rfl) (by kernel_rfl) [.slice (some ⟨g1, 0, none⟩) ((ivs (L2)).length) (k108), .int .i64 (((e : Nat) : Int)), .pointer (some ⟨g1, 0 + e * 1, none⟩), .int .i64 (yy), .slice (some ⟨g2, 0, none⟩) ((ivs (L2)).length) (k111), .int .i64 (((e : Nat) : Int)), .pointer (some ⟨g2, 0 + e * 1, none⟩), .int .i64 (yy), .bool false] (by rfl) (fun wx => Ms w wx [sl 3 1 g2 k111 ((ivs (L2)).length) ((ivs (L2)).map encZ), sl 3 1 g1 k108 ((ivs (L2)).length) ((ivs (L2)).map encZ), blk (p10) ([.int .i64 (((x : Nat) : Int)), .int .i64 (slots), .int .i64 (d2), .slice ao2 ((L2).length) (cap2)]) 44, row 64 2 (.slice ao2 (L2).length cap2) ((L2).length) (tcs (L2)), bf p7 (x) (slots) (d2) (L2), blk (wr.heap.size) (([.int .i64 (k), .int .i64 (i), .string (s)] : List Value)) 32]) hM.drew ?_ ?_
              · simp only [fullL, Act.put, List.setIfInBounds_toArray, List.set_cons_succ, List.set_cons_zero]
                refine ⟨?_, ?_, ?_, ?_, ?_, ?_, ?_, ?_, ?_, trivial⟩
                · exact fun wx hM => gw rfl (g_move _ (.slice (some ⟨g1, 0, none⟩) ((ivs (L2)).length) (k108)) rfl ⟨rfl, hM⟩)
                · exact fun wx hM => gw rfl (g_move _ (.int .i64 (((e : Nat) : Int))) rfl ⟨rfl, hM⟩)
                · exact fun wx hM => gw rfl (g_ix _ _ 39 3 1 Try.underlying39 szof3 g1 0 ((ivs (L2)).length) k108 e (0 + e * 1) _ rfl rfl rfl hel rfl ⟨rfl, hM⟩)
                · exact fun wx hM => gw rfl (g_ld1 3 _ (g1) (0 + e * 1) _ rfl (ld3 _ _ _ _ (by rw [Nat.mul_one, Nat.zero_add]; exact sl_cell (show Ms w _ [sl 3 1 g1 k108 ((ivs (L2)).length) ((ivs (L2)).map encZ), sl 3 1 g2 k111 ((ivs (L2)).length) ((ivs (L2)).map encZ), blk (p10) ([.int .i64 (((x : Nat) : Int)), .int .i64 (slots), .int .i64 (d2), .slice ao2 ((L2).length) (cap2)]) 44, row 64 2 (.slice ao2 (L2).length cap2) ((L2).length) (tcs (L2)), bf p7 (x) (slots) (d2) (L2), blk (wr.heap.size) (([.int .i64 (k), .int .i64 (i), .string (s)] : List Value)) 32] from (hM.up 1 rfl)) e _ (enc_at hy))) ⟨rfl, hM⟩)
                · exact fun wx hM => gw rfl (g_move _ (.slice (some ⟨g2, 0, none⟩) ((ivs (L2)).length) (k111)) rfl ⟨rfl, hM⟩)
                · exact fun wx hM => gw rfl (g_move _ (.int .i64 (((e : Nat) : Int))) rfl ⟨rfl, hM⟩)
                · exact fun wx hM => gw rfl (g_ix _ _ 39 3 1 Try.underlying39 szof3 g2 0 ((ivs (L2)).length) k111 e (0 + e * 1) _ rfl rfl rfl hel rfl ⟨rfl, hM⟩)
                · exact fun wx hM => gw rfl (g_ld1 3 _ (g2) (0 + e * 1) _ rfl (ld3 _ _ _ _ (by rw [Nat.mul_one, Nat.zero_add]; exact sl_cell hM e _ (enc_at hy))) ⟨rfl, hM⟩)
                · exact fun wx hM => gw rfl (g_ine 3 _ _ .i64 (yy) (yy) false rfl rfl (decide_eq_false (fun h => h rfl)) ⟨rfl, hM⟩)
              · simp only [fullL, Act.put, List.setIfInBounds_toArray, List.set_cons_succ, List.set_cons_zero]
                intro w121 hM
                refine hK120 _ _ ?_
                (try clear hK120 K120)
                refine wp_cond_false rfl ?_
                refine wp_skip ?_
                refine hK118 _ _ ?_
                (try clear hK118 K118)
                refine wl_region ?_
                refine wl_give rfl (g_ia 3 _ _ .i64 (((e : Nat) : Int)) (1) (((e + 1 : Nat) : Int)) rfl rfl (he1.out) ?_)
                (try simp only [Act.put, List.setIfInBounds_toArray, List.set_cons_zero, List.set_cons_succ])
                refine wl_give rfl (g_move _ (.int .i64 (((e + 1 : Nat) : Int))) rfl ?_)
                (try simp only [Act.put, List.setIfInBounds_toArray, List.set_cons_zero, List.set_cons_succ])
                refine wl_nil ?_
                (try simp only [Exit.then, Exit.inBlock, ↓reduceIte, Nat.reduceEqDiff])
                have h9 := sl_row ((((((hM.up 5 rfl).up 5 rfl).up 5 rfl).up 5 rfl).up 4 rfl).up 5 rfl)
                have h10 := (sl_row (h9.up 1 rfl)).up 1 rfl
                exact ⟨m2 - 1, by omega, e + 1, (tl [.int .i64 (((x : Nat) : Int)), .int .i64 (slots), .slice (some ⟨b, o, none⟩) (n) (cap), undef, undef, undef, .bool false, .pointer (some ⟨p7, 0, none⟩), .int .i64 (0), .pointer (some ⟨p10, 0, none⟩), .int .i64 (0), .int .i64 (((j : Nat) : Int)), .pointer (some ⟨wr.heap.size, 0, none⟩), .slice (some ⟨g1, 0, none⟩) ((ivs (L2)).length) (k108), .slice (some ⟨g2, 0, none⟩) ((ivs (L2)).length) (k111), .int .i64 (((e : Nat) : Int)), t 16, t 17, t 18, t 19, t 20, t 21, t 22, t 23, t 24, t 25, t 26, t 27, t 28, t 29, t 30, t 31, t 32, t 33, t 34, t 35, t 36, t 37, t 38, t 39, .int .i64 (((j : Nat) : Int)), .slice (some ⟨b, o, none⟩) (n) (cap), .int .i64 (((n : Nat) : Int)), .bool true, .bool true, .int .i64 (((j : Nat) : Int)), .bool true, .bool true, .bool true, .pointer (some ⟨p10, 0, none⟩), .bool true, .bool true, t 52, t 53, .slice (some ⟨b, o, none⟩) (n) (cap), .int .i64 (((j : Nat) : Int)), .pointer (some ⟨b, o + j * 3, none⟩), .agg (([.int .i64 (k), .int .i64 (i), .string (s)] : List Value)).toArray, .agg (([.int .i64 (k), .int .i64 (i), .string (s)] : List Value)).toArray, .bool false, .pointer (some ⟨wr.heap.size, 0, none⟩), .int .i64 (k), .bool false, .bool false, t 64, t 65, t 66, t 67, t 68, t 69, t 70, t 71, t 72, t 73, t 74, t 75, t 76, .bool false, .bool false, t 79, t 80, t 81, t 82, t 83, t 84, t 85, t 86, t 87, t 88, .bool false, .bool false, t 91, t 92, t 93, t 94, t 95, t 96, t 97, t 98, t 99, .pointer (some ⟨p7, 0, none⟩), .slice (some ⟨g1, 0, none⟩) ((ivs (L2)).length) (k108), .pointer (some ⟨p10, 0, none⟩), .slice (some ⟨g2, 0, none⟩) ((ivs (L2)).length) (k111), .slice (some ⟨g1, 0, none⟩) ((ivs (L2)).length) (k108), .int .i64 ((((ivs (L2)).length : Nat) : Int)), .slice (some ⟨g2, 0, none⟩) ((ivs (L2)).length) (k111), .int .i64 ((((ivs (L2)).length : Nat) : Int)), .bool false, .bool false, .pointer (some ⟨p7, 0, none⟩), .int .i64 ((((L2).length : Nat) : Int)), .pointer (some ⟨p10, 0, none⟩), .pointer (some ⟨p10, 0, none⟩), .pointer (some ⟨p10, 3, none⟩), .slice ao2 ((L2).length) (cap2), .int .i64 ((((L2).length : Nat) : Int)), .bool false, .bool false, .bool false, .pointer (some ⟨p7, 0, none⟩), .int .i64 (d2), .pointer (some ⟨p10, 0, none⟩), .pointer (some ⟨p10, 0, none⟩), .pointer (some ⟨p10, 2, none⟩), .int .i64 (d2), .bool false, .bool false, .bool false, .pointer (some ⟨p7, 0, none⟩), .pointer (some ⟨wr.heap.size, 1, none⟩), .int .i64 (i), .pointer (some ⟨wr.heap.size, 2, none⟩), .string (s), .bool (hasT i s (L2)), .pointer (some ⟨p10, 0, none⟩), .pointer (some ⟨wr.heap.size, 1, none⟩), .int .i64 (i), .pointer (some ⟨wr.heap.size, 2, none⟩), .string (s), .bool (hasT i s (L2)), .bool false, .bool false, .slice (some ⟨g1, 0, none⟩) ((ivs (L2)).length) (k108), .int .i64 ((((ivs (L2)).length : Nat) : Int)), .int .i64 (((e + 1 : Nat) : Int)), .bool true, .int .i64 (((e : Nat) : Int)), .slice (some ⟨g1, 0, none⟩) ((ivs (L2)).length) (k108), .int .i64 (((e : Nat) : Int)), .pointer (some ⟨g1, 0 + e * 1, none⟩), .int .i64 (yy), .slice (some ⟨g2, 0, none⟩) ((ivs (L2)).length) (k111), .int .i64 (((e : Nat) : Int)), .pointer (some ⟨g2, 0 + e * 1, none⟩), .int .i64 (yy), .bool false, .int .i64 (((e + 1 : Nat) : Int))]), rfl, by omega, h10⟩
            · skip
              refine wp_seq_k (fun K122 hK122 => ?_)
              refine wl_region ?_
              refine wl_give rfl (g_ilss 3 _ _ .i64 (((e : Nat) : Int)) ((((ivs (L2)).length : Nat) : Int)) false rfl rfl (decide_eq_false h5) ?_)
              (try simp only [Act.put, List.setIfInBounds_toArray, List.set_cons_zero, List.set_cons_succ])
              refine wl_nil ?_
              refine hK122 _ _ ?_
              (try clear hK122 K122)
              refine wp_seq_k (fun K123 hK123 => ?_)
              refine wp_cond_false rfl ?_
              refine wp_exit ?_
              refine hK17 _ _ ?_
              (try clear hK17 K17)
              refine wl_region ?_
              refine wl_give rfl (g_move _ (.int .i64 (((j : Nat) : Int))) rfl ?_)
              (try simp only [Act.put, List.setIfInBounds_toArray, List.set_cons_zero, List.set_cons_succ])
              refine wl_give rfl (g_ia 3 _ _ .i64 (((j : Nat) : Int)) (1) (((j + 1 : Nat) : Int)) rfl rfl (hj1.out) ?_)
              (try simp only [Act.put, List.setIfInBounds_toArray, List.set_cons_zero, List.set_cons_succ])
              refine wl_give rfl (g_assign _ (.int .i64 (((j + 1 : Nat) : Int))) rfl ?_)
              (try simp only [Act.put, List.setIfInBounds_toArray, List.set_cons_zero, List.set_cons_succ])
              refine wl_nil ?_
              (try simp only [Exit.then, Exit.inBlock, ↓reduceIte, Nat.reduceEqDiff])
              have h9 := rb_mk ((((((hM.up 5 rfl).up 2 rfl).up 2 rfl).up 5 rfl).up 5 rfl).up 5 rfl)
              replace h9 := h9.up 1 rfl
              replace h9 := h9.erase 2
              replace h9 := h9.erase 2
              replace h9 := h9.erase 2
              exact ⟨m - 1, by omega, j + 1, _, _, (tl [.int .i64 (((x : Nat) : Int)), .int .i64 (slots), .slice (some ⟨b, o, none⟩) (n) (cap), undef, undef, undef, .bool false, .pointer (some ⟨p7, 0, none⟩), .int .i64 (0), .pointer (some ⟨p10, 0, none⟩), .int .i64 (0), .int .i64 (((j + 1 : Nat) : Int)), .pointer (some ⟨wr.heap.size, 0, none⟩), .slice o107 ((ivs (L2)).length) (k108), .slice o110 ((ivs (L2)).length) (k111), u 15, t 16, t 17, t 18, t 19, t 20, t 21, t 22, t 23, t 24, t 25, t 26, t 27, t 28, t 29, t 30, t 31, t 32, t 33, t 34, t 35, t 36, t 37, t 38, t 39, .int .i64 (((j : Nat) : Int)), .slice (some ⟨b, o, none⟩) (n) (cap), .int .i64 (((n : Nat) : Int)), .bool true, .bool true, .int .i64 (((j : Nat) : Int)), .bool true, .bool true, .bool true, .pointer (some ⟨p10, 0, none⟩), .bool true, .bool true, .int .i64 (((j : Nat) : Int)), .int .i64 (((j + 1 : Nat) : Int)), .slice (some ⟨b, o, none⟩) (n) (cap), .int .i64 (((j : Nat) : Int)), .pointer (some ⟨b, o + j * 3, none⟩), .agg (([.int .i64 (k), .int .i64 (i), .string (s)] : List Value)).toArray, .agg (([.int .i64 (k), .int .i64 (i), .string (s)] : List Value)).toArray, .bool false, .pointer (some ⟨wr.heap.size, 0, none⟩), .int .i64 (k), .bool false, .bool false, t 64, t 65, t 66, t 67, t 68, t 69, t 70, t 71, t 72, t 73, t 74, t 75, t 76, .bool false, .bool false, t 79, t 80, t 81, t 82, t 83, t 84, t 85, t 86, t 87, t 88, .bool false, .bool false, t 91, t 92, t 93, t 94, t 95, t 96, t 97, t 98, t 99, .pointer (some ⟨p7, 0, none⟩), .slice o107 ((ivs (L2)).length) (k108), .pointer (some ⟨p10, 0, none⟩), .slice o110 ((ivs (L2)).length) (k111), .slice o107 ((ivs (L2)).length) (k108), .int .i64 ((((ivs (L2)).length : Nat) : Int)), .slice o110 ((ivs (L2)).length) (k111), .int .i64 ((((ivs (L2)).length : Nat) : Int)), .bool false, .bool false, .pointer (some ⟨p7, 0, none⟩), .int .i64 ((((L2).length : Nat) : Int)), .pointer (some ⟨p10, 0, none⟩), .pointer (some ⟨p10, 0, none⟩), .pointer (some ⟨p10, 3, none⟩), .slice ao2 ((L2).length) (cap2), .int .i64 ((((L2).length : Nat) : Int)), .bool false, .bool false, .bool false, .pointer (some ⟨p7, 0, none⟩), .int .i64 (d2), .pointer (some ⟨p10, 0, none⟩), .pointer (some ⟨p10, 0, none⟩), .pointer (some ⟨p10, 2, none⟩), .int .i64 (d2), .bool false, .bool false, .bool false, .pointer (some ⟨p7, 0, none⟩), .pointer (some ⟨wr.heap.size, 1, none⟩), .int .i64 (i), .pointer (some ⟨wr.heap.size, 2, none⟩), .string (s), .bool (hasT i s (L2)), .pointer (some ⟨p10, 0, none⟩), .pointer (some ⟨wr.heap.size, 1, none⟩), .int .i64 (i), .pointer (some ⟨wr.heap.size, 2, none⟩), .string (s), .bool (hasT i s (L2)), .bool false, .bool false, .slice o107 ((ivs (L2)).length) (k108), .int .i64 ((((ivs (L2)).length : Nat) : Int)), .int .i64 (((e : Nat) : Int)), .bool false, u 147, u 148, u 149, u 150, u 151, u 152, u 153, u 154, u 155, u 156, u 157]), rfl, by omega, hI2, h9⟩
    · skip
      refine wp_seq_k (fun K124 hK124 => ?_)
      refine wp_seq_k (fun K125 hK125 => ?_)
      refine wl_region ?_
      refine wl_give rfl (g_move _ (.int .i64 (((j : Nat) : Int))) rfl ?_)
      (try simp only [Act.put, List.setIfInBounds_toArray, List.set_cons_zero, List.set_cons_succ])
      refine wl_give rfl (g_move _ (.slice ao (n) (cap)) rfl ?_)
      (try simp only [Act.put, List.setIfInBounds_toArray, List.set_cons_zero, List.set_cons_succ])
      refine wl_give rfl (g_len _ 22 32 (ao) (n) (cap) (((n : Nat) : Int)) Try.underlying22 rfl rfl ?_)
      (try simp only [Act.put, List.setIfInBounds_toArray, List.set_cons_zero, List.set_cons_succ])
      refine wl_give rfl (g_ilss 3 _ _ .i64 (((j : Nat) : Int)) (((n : Nat) : Int)) true rfl rfl (decide_eq_true h1) ?_)
      (try simp only [Act.put, List.setIfInBounds_toArray, List.set_cons_zero, List.set_cons_succ])
      refine wl_give rfl (g_move _ (.bool true) rfl ?_)
      (try simp only [Act.put, List.setIfInBounds_toArray, List.set_cons_zero, List.set_cons_succ])
      refine wl_give rfl (g_move _ (.int .i64 (((j : Nat) : Int))) rfl ?_)
      (try simp only [Act.put, List.setIfInBounds_toArray, List.set_cons_zero, List.set_cons_succ])
      refine wl_give rfl (g_ilss 3 _ _ .i64 (((j : Nat) : Int)) (100) false rfl rfl (decide_eq_false h2) ?_)
      (try simp only [Act.put, List.setIfInBounds_toArray, List.set_cons_zero, List.set_cons_succ])
      refine wl_give rfl (g_pickt _ _ _ (.bool false) rfl rfl ?_)
      (try simp only [Act.put, List.setIfInBounds_toArray, List.set_cons_zero, List.set_cons_succ])
      refine wl_give rfl (g_move _ (.bool false) rfl ?_)
      (try simp only [Act.put, List.setIfInBounds_toArray, List.set_cons_zero, List.set_cons_succ])
      refine wl_skip rfl ?_
      (try simp only [Act.put, List.setIfInBounds_toArray, List.set_cons_zero, List.set_cons_succ])
      refine wl_skip rfl ?_
      (try simp only [Act.put, List.setIfInBounds_toArray, List.set_cons_zero, List.set_cons_succ])
      refine wl_give rfl (g_pickf _ _ _ (.bool false) rfl rfl ?_)
      (try simp only [Act.put, List.setIfInBounds_toArray, List.set_cons_zero, List.set_cons_succ])
      refine wl_nil ?_
      refine hK125 _ _ ?_
      (try clear hK125 K125)
      refine wp_cond_false rfl ?_
      refine wp_exit ?_
      refine hK13 _ _ ?_
      (try clear hK13 K13)
      refine wp_seq_k (fun K126 hK126 => ?_)
      refine wl_region ?_
      refine wl_give rfl (g_assign _ (.bool true) rfl ?_)
      (try simp only [Act.put, List.setIfInBounds_toArray, List.set_cons_zero, List.set_cons_succ])
      refine wl_nil ?_
      refine hK126 _ _ ?_
      (try clear hK126 K126)
      refine wp_ret ?_
      go_ret
      exact ⟨rfl, hM.below⟩
  · skip
    refine wp_seq_k (fun K127 hK127 => ?_)
    refine wp_seq_k (fun K128 hK128 => ?_)
    refine wl_region ?_
    refine wl_give rfl (g_move _ (.int .i64 (((j : Nat) : Int))) rfl ?_)
    (try simp only [Act.put, List.setIfInBounds_toArray, List.set_cons_zero, List.set_cons_succ])
    refine wl_give rfl (g_move _ (.slice ao (n) (cap)) rfl ?_)
    (try simp only [Act.put, List.setIfInBounds_toArray, List.set_cons_zero, List.set_cons_succ])
    refine wl_give rfl (g_len _ 22 32 (ao) (n) (cap) (((n : Nat) : Int)) Try.underlying22 rfl rfl ?_)
    (try simp only [Act.put, List.setIfInBounds_toArray, List.set_cons_zero, List.set_cons_succ])
    refine wl_give rfl (g_ilss 3 _ _ .i64 (((j : Nat) : Int)) (((n : Nat) : Int)) false rfl rfl (decide_eq_false h1) ?_)
    (try simp only [Act.put, List.setIfInBounds_toArray, List.set_cons_zero, List.set_cons_succ])
    refine wl_give rfl (g_move _ (.bool false) rfl ?_)
    (try simp only [Act.put, List.setIfInBounds_toArray, List.set_cons_zero, List.set_cons_succ])
    refine wl_skip rfl ?_
    (try simp only [Act.put, List.setIfInBounds_toArray, List.set_cons_zero, List.set_cons_succ])
    refine wl_skip rfl ?_
    (try simp only [Act.put, List.setIfInBounds_toArray, List.set_cons_zero, List.set_cons_succ])
    refine wl_give rfl (g_pickf _ _ _ (.bool false) rfl rfl ?_)
    (try simp only [Act.put, List.setIfInBounds_toArray, List.set_cons_zero, List.set_cons_succ])
    refine wl_give rfl (g_move _ (.bool false) rfl ?_)
    (try simp only [Act.put, List.setIfInBounds_toArray, List.set_cons_zero, List.set_cons_succ])
    refine wl_skip rfl ?_
    (try simp only [Act.put, List.setIfInBounds_toArray, List.set_cons_zero, List.set_cons_succ])
    refine wl_skip rfl ?_
    (try simp only [Act.put, List.setIfInBounds_toArray, List.set_cons_zero, List.set_cons_succ])
    refine wl_give rfl (g_pickf _ _ _ (.bool false) rfl rfl ?_)
    (try simp only [Act.put, List.setIfInBounds_toArray, List.set_cons_zero, List.set_cons_succ])
    refine wl_nil ?_
    refine hK128 _ _ ?_
    (try clear hK128 K128)
    refine wp_cond_false rfl ?_
    refine wp_exit ?_
    refine hK13 _ _ ?_
    (try clear hK13 K13)
    refine wp_seq_k (fun K129 hK129 => ?_)
    refine wl_region ?_
    refine wl_give rfl (g_assign _ (.bool true) rfl ?_)
    (try simp only [Act.put, List.setIfInBounds_toArray, List.set_cons_zero, List.set_cons_succ])
    refine wl_nil ?_
    refine hK129 _ _ ?_
    (try clear hK129 K129)
    refine wp_ret ?_
    go_ret
    exact ⟨rfl, hM.below⟩
theorem walk (each slots : Int) (ao : Option Addr) (n cap : Nat) (w : World) (ha : -9223372036854775808 ≤ each ∧ each ≤ 9223372036854775807) (hb : -9223372036854775808 ≤ slots ∧ slots ≤ 9223372036854775807) (hl : LA w ao n) (h1 : n ≤ cap) (h2 : cap ≤ maxLen) : Calls Try.prog 3 #[.int .i64 each, .int .i64 slots, .slice ao n cap] w fun e w' => e = .returned (.bool true) ∧ Below w.heap.size w w' := by
  have hmx : maxLen ≤ 9223372036854775807 := by decide
  by_cases h : 1 ≤ each ∧ each ≤ 64 ∧ 1 ≤ slots ∧ slots ≤ 64
  · obtain ⟨x, rfl⟩ : ∃ x : Nat, each = ((x : Nat) : Int) := ⟨each.toNat, by omega⟩
    exact walk_on x slots ao n cap w hl (by omega) (by omega) (by omega) h.2.2.1 h.2.2.2
  · exact walk_bad each slots ao n cap w h
end Go.Proofs.Ytpkjocibgmjhdaa.bufferDoes
