/- Slices that are there, read; what the laws' texts answers. -/
import Derived.Test.YtpkjocibgmjhdaaBfa
namespace Go.Proofs.Ytpkjocibgmjhdaa
set_option maxRecDepth 10000
open Go Go.RowKit
set_option linter.unusedVariables false
set_option linter.unusedSimpArgs false

/-- The slice at g of n elements holds the cells xs. -/
def sl (e size g cap n : Nat) (xs : List Value) : HP :=
  ex fun cs : List Value => [pu (xs.length = n * size ∧ n ≤ cap ∧ cap ≤ maxLen ∧ cap * size ≤ cs.length ∧ cs.take (n * size) = xs), blk g cs e]
section
variable {w0 w : World} {R : List HP} {e size g cap n : Nat} {v : Value} {xs : List Value}
theorem row_sl (h : Ms w0 w (row e size v n xs :: R)) (hn : 0 < n) : ∃ g cap, v = .slice (some ⟨g, 0, none⟩) n cap ∧ Ms w0 w (sl e size g cap n xs :: R) := by
  obtain ⟨g, cap, cs, rfl, h1, h2, h3, h4, h5, h6⟩ := row_at h hn
  exact ⟨g, cap, rfl, Ms.shut cs (Ms.mkpu ⟨h2, h3, h4, h5, h6⟩ h1)⟩
theorem sl_row (h : Ms w0 w (sl e size g cap n xs :: R)) : Ms w0 w (row e size (.slice (some ⟨g, 0, none⟩) n cap) n xs :: R) := by
  obtain ⟨cs, h⟩ := h.opn
  obtain ⟨⟨h1, h2, h3, h4, h5⟩, h6⟩ := h.unpu
  exact row_mk h6 h1 h2 h3 h4 h5
theorem sl_cell (h : Ms w0 w (sl e size g cap n xs :: R)) (j : Nat) (u : Value) (hj : xs[j]? = some u) : w.cell? ⟨g, j, none⟩ = some u := by
  obtain ⟨cs, h⟩ := h.opn
  obtain ⟨⟨h1, h2, h3, h4, h5⟩, h6⟩ := h.unpu
  have h6 : Ms w0 w (blk g cs e :: R) := h6
  refine (h6.get 0 rfl).cell j u ?_
  rw [← h5, List.getElem?_take] at hj
  split at hj
  · exact hj
  · cases hj
theorem strs_at {ts : List ByteArray} {j : Nat} {t : ByteArray} (h : ts[j]? = some t) : (ts.map Value.string)[j]? = some (.string t) := by rw [List.getElem?_map, h]; rfl
end
set_option maxHeartbeats 4000000 in
theorem texts_ne {w0 w : World} {R : List HP} {xs ys : List ByteArray} {o1 o2 : Option Addr} {c1 c2 : Nat} (hM : Ms w0 w (row 9 1 (.slice o1 xs.length c1) (xs.length) ((xs).map Value.string) :: row 9 1 (.slice o2 ys.length c2) (ys.length) ((ys).map Value.string) :: R)) (hne : ((xs.length : Nat) : Int) ≠ ((ys.length : Nat) : Int)) : Calls Try.prog 16 #[.slice o1 xs.length c1, .slice o2 ys.length c2] w fun e w' => e = .returned (.bool false) ∧ Ms w0 w' (row 9 1 (.slice o1 xs.length c1) (xs.length) ((xs).map Value.string) :: row 9 1 (.slice o2 ys.length c2) (ys.length) ((ys).map Value.string) :: R) := by
  go_enter Try.func16, Try.ntmps16
  refine wp_seq_k (fun K1 hK1 => ?_)
  refine wl_region ?_
  refine wl_give rfl (g_assign _ (.bool false) rfl ?_)
  (try simp only [Act.put, List.setIfInBounds_toArray, List.set_cons_zero, List.set_cons_succ])
  refine wl_nil ?_
  refine hK1 _ _ ?_
  (try clear hK1 K1)
  refine wp_seq_k (fun K2 hK2 => ?_)
  refine wp_seq_k (fun K3 hK3 => ?_)
  refine wl_region ?_
  refine wl_give rfl (g_move _ (.slice o1 (xs.length) (c1)) rfl ?_)
  (try simp only [Act.put, List.setIfInBounds_toArray, List.set_cons_zero, List.set_cons_succ])
  refine wl_give rfl (g_len _ 36 9 (o1) (xs.length) (c1) (((xs.length : Nat) : Int)) Try.underlying36 rfl rfl ?_)
  (try simp only [Act.put, List.setIfInBounds_toArray, List.set_cons_zero, List.set_cons_succ])
  refine wl_give rfl (g_move _ (.slice o2 (ys.length) (c2)) rfl ?_)
  (try simp only [Act.put, List.setIfInBounds_toArray, List.set_cons_zero, List.set_cons_succ])
  refine wl_give rfl (g_len _ 36 9 (o2) (ys.length) (c2) (((ys.length : Nat) : Int)) Try.underlying36 rfl rfl ?_)
  (try simp only [Act.put, List.setIfInBounds_toArray, List.set_cons_zero, List.set_cons_succ])
  refine wl_give rfl (g_ine 3 _ _ .i64 (((xs.length : Nat) : Int)) (((ys.length : Nat) : Int)) true rfl rfl (decide_eq_true hne) ?_)
  (try simp only [Act.put, List.setIfInBounds_toArray, List.set_cons_zero, List.set_cons_succ])
  refine wl_nil ?_
  refine hK3 _ _ ?_
  (try clear hK3 K3)
  refine wp_cond_true rfl ?_
  refine wp_seq_k (fun K4 hK4 => ?_)
  refine wl_region ?_
  refine wl_give rfl (g_assign _ (.bool false) rfl ?_)
  (try simp only [Act.put, List.setIfInBounds_toArray, List.set_cons_zero, List.set_cons_succ])
  refine wl_nil ?_
  refine hK4 _ _ ?_
  (try clear hK4 K4)
  refine wp_ret ?_
  go_ret
  exact ⟨rfl, hM⟩
set_option maxHeartbeats 4000000 in
theorem texts_eq {w0 w : World} {R : List HP} {xs ys : List ByteArray} {o1 o2 : Option Addr} {c1 c2 : Nat} (hM : Ms w0 w (row 9 1 (.slice o1 xs.length c1) (xs.length) ((xs).map Value.string) :: row 9 1 (.slice o2 ys.length c2) (ys.length) ((ys).map Value.string) :: R)) (hxy : xs.length = ys.length) (hb : xs.length ≤ 1000000) : Calls Try.prog 16 #[.slice o1 xs.length c1, .slice o2 ys.length c2] w fun e w' => e = .returned (.bool (decide (xs = ys))) ∧ Ms w0 w' (row 9 1 (.slice o1 xs.length c1) (xs.length) ((xs).map Value.string) :: row 9 1 (.slice o2 ys.length c2) (ys.length) ((ys).map Value.string) :: R) := by
  go_enter Try.func16, Try.ntmps16
  refine wp_seq_k (fun K1 hK1 => ?_)
  refine wl_region ?_
  refine wl_give rfl (g_assign _ (.bool false) rfl ?_)
  (try simp only [Act.put, List.setIfInBounds_toArray, List.set_cons_zero, List.set_cons_succ])
  refine wl_nil ?_
  refine hK1 _ _ ?_
  (try clear hK1 K1)
  refine wp_seq_k (fun K2 hK2 => ?_)
  refine wp_seq_k (fun K3 hK3 => ?_)
  refine wl_region ?_
  refine wl_give rfl (g_move _ (.slice o1 (xs.length) (c1)) rfl ?_)
  (try simp only [Act.put, List.setIfInBounds_toArray, List.set_cons_zero, List.set_cons_succ])
  refine wl_give rfl (g_len _ 36 9 (o1) (xs.length) (c1) (((xs.length : Nat) : Int)) Try.underlying36 rfl rfl ?_)
  (try simp only [Act.put, List.setIfInBounds_toArray, List.set_cons_zero, List.set_cons_succ])
  refine wl_give rfl (g_move _ (.slice o2 (ys.length) (c2)) rfl ?_)
  (try simp only [Act.put, List.setIfInBounds_toArray, List.set_cons_zero, List.set_cons_succ])
  refine wl_give rfl (g_len _ 36 9 (o2) (ys.length) (c2) (((ys.length : Nat) : Int)) Try.underlying36 rfl rfl ?_)
  (try simp only [Act.put, List.setIfInBounds_toArray, List.set_cons_zero, List.set_cons_succ])
  refine wl_give rfl (g_ine 3 _ _ .i64 (((xs.length : Nat) : Int)) (((ys.length : Nat) : Int)) false rfl rfl (decide_eq_false (by omega)) ?_)
  (try simp only [Act.put, List.setIfInBounds_toArray, List.set_cons_zero, List.set_cons_succ])
  refine wl_nil ?_
  refine hK3 _ _ ?_
  (try clear hK3 K3)
  refine wp_cond_false rfl ?_
  refine wp_skip ?_
  refine hK2 _ _ ?_
  (try clear hK2 K2)
  refine wp_seq_k (fun K4 hK4 => ?_)
  refine wp_seq_k (fun K5 hK5 => ?_)
  refine wl_region ?_
  refine wl_give rfl (g_move _ (.slice o1 (xs.length) (c1)) rfl ?_)
  (try simp only [Act.put, List.setIfInBounds_toArray, List.set_cons_zero, List.set_cons_succ])
  refine wl_give rfl (g_len _ 36 9 (o1) (xs.length) (c1) (((xs.length : Nat) : Int)) Try.underlying36 rfl rfl ?_)
  (try simp only [Act.put, List.setIfInBounds_toArray, List.set_cons_zero, List.set_cons_succ])
  refine wl_give rfl (g_move _ (.int .i64 (0)) rfl ?_)
  (try simp only [Act.put, List.setIfInBounds_toArray, List.set_cons_zero, List.set_cons_succ])
  refine wl_nil ?_
  refine hK5 _ _ ?_
  (try clear hK5 K5)
  refine wp_block ?_
  refine wp_rounds (fun n a wr => ∃ (j : Nat) (t5 t14 t15 t16 t17 t18 t19 t20 t21 t22 t23 t24 t25 : Value), a = ⟨#[.slice o1 (xs.length) (c1), .slice o2 (ys.length) (c2), undef, undef, .bool false, t5, .slice o1 (xs.length) (c1), .int .i64 (((xs.length : Nat) : Int)), .slice o2 (ys.length) (c2), .int .i64 (((ys.length : Nat) : Int)), .bool false, .slice o1 (xs.length) (c1), .int .i64 (((xs.length : Nat) : Int)), .int .i64 ((j : Nat) : Int), t14, t15, t16, t17, t18, t19, t20, t21, t22, t23, t24, t25], []⟩ ∧ j + n = xs.length ∧ xs.take j = ys.take j ∧ Ms w0 wr (row 9 1 (.slice o1 xs.length c1) (xs.length) ((xs).map Value.string) :: row 9 1 (.slice o2 ys.length c2) (ys.length) ((ys).map Value.string) :: R)) xs.length ⟨0, _, _, _, _, _, _, _, _, _, _, _, _, _, rfl, Nat.zero_add _, rfl, hM⟩ ?_
  clear hM
  rintro n a wr ⟨j, t5, t14, t15, t16, t17, t18, t19, t20, t21, t22, t23, t24, t25, rfl, hj, htk, hM⟩
  by_cases hlt : ((j : Nat) : Int) < ((xs.length : Nat) : Int)
  · have hjl : j < xs.length := by omega
    obtain ⟨t, ht⟩ : ∃ t, xs[j]? = some t := ⟨_, List.getElem?_eq_getElem hjl⟩
    obtain ⟨u, hu⟩ : ∃ u, ys[j]? = some u := ⟨_, List.getElem?_eq_getElem (by omega)⟩
    have e1 : Shut (IntKind.i64.wrap (((j : Nat) : Int) + 1) = ((j + 1 : Nat) : Int)) := ⟨by rw [wrap_id _ (by omega) (by omega)]; omega⟩
    obtain ⟨g1, k1, hv1, hM⟩ := row_sl hM (by omega)
    cases hv1
    obtain ⟨g2, k2, hv2, hM⟩ := row_sl (hM.up 1 rfl) (by omega)
    cases hv2
    by_cases htu : t = u
    · skip
      refine wp_seq_k (fun K6 hK6 => ?_)
      refine wl_region ?_
      refine wl_give rfl (g_ilss 3 _ _ .i64 (((j : Nat) : Int)) (((xs.length : Nat) : Int)) true rfl rfl (decide_eq_true hlt) ?_)
      (try simp only [Act.put, List.setIfInBounds_toArray, List.set_cons_zero, List.set_cons_succ])
      refine wl_nil ?_
      refine hK6 _ _ ?_
      (try clear hK6 K6)
      refine wp_seq_k (fun K7 hK7 => ?_)
      refine wp_cond_true rfl ?_
      refine wp_skip ?_
      refine hK7 _ _ ?_
      (try clear hK7 K7)
      refine wp_seq_k (fun K8 hK8 => ?_)
      refine wp_block ?_
      refine wp_seq_k (fun K9 hK9 => ?_)
      refine wl_region ?_
      refine wl_give rfl (g_move _ (.int .i64 (((j : Nat) : Int))) rfl ?_)
      (try simp only [Act.put, List.setIfInBounds_toArray, List.set_cons_zero, List.set_cons_succ])
      refine wl_give rfl (g_assign _ (.int .i64 (((j : Nat) : Int))) rfl ?_)
      (try simp only [Act.put, List.setIfInBounds_toArray, List.set_cons_zero, List.set_cons_succ])
      refine wl_nil ?_
      refine hK9 _ _ ?_
      (try clear hK9 K9)
      refine wp_seq_k (fun K10 hK10 => ?_)
      refine wp_region_fixed (by kernel_rfl) (by kernel_rfl) [.slice (some ⟨g1, 0, none⟩) (xs.length) (c1), .int .i64 (((j : Nat) : Int)), .pointer (some ⟨g1, 0 + j * 1, none⟩), .string (t), .slice (some ⟨g2, 0, none⟩) (ys.length) (c2), .int .i64 (((j : Nat) : Int)), .pointer (some ⟨g2, 0 + j * 1, none⟩), .string (u), .bool false] (by rfl) (fun wx => Ms w0 wx (sl 9 1 g2 c2 ys.length ((ys).map Value.string) :: sl 9 1 g1 c1 xs.length ((xs).map Value.string) :: R)) hM.drew ?_ ?_
      · simp only [fullL, Act.put, List.setIfInBounds_toArray, List.set_cons_succ, List.set_cons_zero]
        refine ⟨?_, ?_, ?_, ?_, ?_, ?_, ?_, ?_, ?_, trivial⟩
        · exact fun wx hM => gw rfl (g_move _ (.slice (some ⟨g1, 0, none⟩) (xs.length) (c1)) rfl ⟨rfl, hM⟩)
        · exact fun wx hM => gw rfl (g_move _ (.int .i64 (((j : Nat) : Int))) rfl ⟨rfl, hM⟩)
        · exact fun wx hM => gw rfl (g_ix _ _ 36 9 1 Try.underlying36 szof9 g1 0 xs.length c1 j (0 + j * 1) _ rfl rfl rfl hjl rfl ⟨rfl, hM⟩)
        · exact fun wx hM => gw rfl (g_ld1 9 _ (g1) (0 + j * 1) _ rfl (ld9 _ _ _ _ (by rw [Nat.mul_one, Nat.zero_add]; exact sl_cell (show Ms w0 _ (sl 9 1 g1 c1 xs.length ((xs).map Value.string) :: sl 9 1 g2 c2 ys.length ((ys).map Value.string) :: R) from (hM.up 1 rfl)) j _ (strs_at ht))) ⟨rfl, hM⟩)
        · exact fun wx hM => gw rfl (g_move _ (.slice (some ⟨g2, 0, none⟩) (ys.length) (c2)) rfl ⟨rfl, hM⟩)
        · exact fun wx hM => gw rfl (g_move _ (.int .i64 (((j : Nat) : Int))) rfl ⟨rfl, hM⟩)
        · exact fun wx hM => gw rfl (g_ix _ _ 36 9 1 Try.underlying36 szof9 g2 0 ys.length c2 j (0 + j * 1) _ rfl rfl rfl (hxy ▸ hjl) rfl ⟨rfl, hM⟩)
        · exact fun wx hM => gw rfl (g_ld1 9 _ (g2) (0 + j * 1) _ rfl (ld9 _ _ _ _ (by rw [Nat.mul_one, Nat.zero_add]; exact sl_cell hM j _ (strs_at hu))) ⟨rfl, hM⟩)
        · exact fun wx hM => gw rfl (g_strN _ _ (t) (u) true false rfl rfl (decide_eq_true htu) rfl ⟨rfl, hM⟩)
      · simp only [fullL, Act.put, List.setIfInBounds_toArray, List.set_cons_succ, List.set_cons_zero]
        intro w11 hM
        refine hK10 _ _ ?_
        (try clear hK10 K10)
        refine wp_cond_false rfl ?_
        refine wp_skip ?_
        refine hK8 _ _ ?_
        (try clear hK8 K8)
        refine wl_region ?_
        refine wl_give rfl (g_ia 3 _ _ .i64 (((j : Nat) : Int)) (1) (((j + 1 : Nat) : Int)) rfl rfl (e1.out) ?_)
        (try simp only [Act.put, List.setIfInBounds_toArray, List.set_cons_zero, List.set_cons_succ])
        refine wl_give rfl (g_move _ (.int .i64 (((j + 1 : Nat) : Int))) rfl ?_)
        (try simp only [Act.put, List.setIfInBounds_toArray, List.set_cons_zero, List.set_cons_succ])
        refine wl_nil ?_
        (try simp only [Exit.then, Exit.inBlock, ↓reduceIte, Nat.reduceEqDiff])
        have h9 := sl_row (show Ms w0 w11 (sl 9 1 g1 c1 xs.length ((xs).map Value.string) :: sl 9 1 g2 c2 ys.length ((ys).map Value.string) :: R) from (hM.up 1 rfl))
        have h10 := (sl_row (h9.up 1 rfl)).up 1 rfl
        exact ⟨n - 1, by omega, j + 1, _, _, _, _, _, _, _, _, _, _, _, _, _, rfl, by omega, by rw [List.take_add_one, List.take_add_one, htk, ht, hu, htu], h10⟩
    · skip
      refine wp_seq_k (fun K12 hK12 => ?_)
      refine wl_region ?_
      refine wl_give rfl (g_ilss 3 _ _ .i64 (((j : Nat) : Int)) (((xs.length : Nat) : Int)) true rfl rfl (decide_eq_true hlt) ?_)
      (try simp only [Act.put, List.setIfInBounds_toArray, List.set_cons_zero, List.set_cons_succ])
      refine wl_nil ?_
      refine hK12 _ _ ?_
      (try clear hK12 K12)
      refine wp_seq_k (fun K13 hK13 => ?_)
      refine wp_cond_true rfl ?_
      refine wp_skip ?_
      refine hK13 _ _ ?_
      (try clear hK13 K13)
      refine wp_seq_k (fun K14 hK14 => ?_)
      refine wp_block ?_
      refine wp_seq_k (fun K15 hK15 => ?_)
      refine wl_region ?_
      refine wl_give rfl (g_move _ (.int .i64 (((j : Nat) : Int))) rfl ?_)
      (try simp only [Act.put, List.setIfInBounds_toArray, List.set_cons_zero, List.set_cons_succ])
      refine wl_give rfl (g_assign _ (.int .i64 (((j : Nat) : Int))) rfl ?_)
      (try simp only [Act.put, List.setIfInBounds_toArray, List.set_cons_zero, List.set_cons_succ])
      refine wl_nil ?_
      refine hK15 _ _ ?_
      (try clear hK15 K15)
      refine wp_seq_k (fun K16 hK16 => ?_)
      refine wp_region_fixed (by kernel_rfl) (by kernel_rfl) [.slice (some ⟨g1, 0, none⟩) (xs.length) (c1), .int .i64 (((j : Nat) : Int)), .pointer (some ⟨g1, 0 + j * 1, none⟩), .string (t), .slice (some ⟨g2, 0, none⟩) (ys.length) (c2), .int .i64 (((j : Nat) : Int)), .pointer (some ⟨g2, 0 + j * 1, none⟩), .string (u), .bool true] (by rfl) (fun wx => Ms w0 wx (sl 9 1 g2 c2 ys.length ((ys).map Value.string) :: sl 9 1 g1 c1 xs.length ((xs).map Value.string) :: R)) hM.drew ?_ ?_
      · simp only [fullL, Act.put, List.setIfInBounds_toArray, List.set_cons_succ, List.set_cons_zero]
        refine ⟨?_, ?_, ?_, ?_, ?_, ?_, ?_, ?_, ?_, trivial⟩
        · exact fun wx hM => gw rfl (g_move _ (.slice (some ⟨g1, 0, none⟩) (xs.length) (c1)) rfl ⟨rfl, hM⟩)
        · exact fun wx hM => gw rfl (g_move _ (.int .i64 (((j : Nat) : Int))) rfl ⟨rfl, hM⟩)
        · exact fun wx hM => gw rfl (g_ix _ _ 36 9 1 Try.underlying36 szof9 g1 0 xs.length c1 j (0 + j * 1) _ rfl rfl rfl hjl rfl ⟨rfl, hM⟩)
        · exact fun wx hM => gw rfl (g_ld1 9 _ (g1) (0 + j * 1) _ rfl (ld9 _ _ _ _ (by rw [Nat.mul_one, Nat.zero_add]; exact sl_cell (show Ms w0 _ (sl 9 1 g1 c1 xs.length ((xs).map Value.string) :: sl 9 1 g2 c2 ys.length ((ys).map Value.string) :: R) from (hM.up 1 rfl)) j _ (strs_at ht))) ⟨rfl, hM⟩)
        · exact fun wx hM => gw rfl (g_move _ (.slice (some ⟨g2, 0, none⟩) (ys.length) (c2)) rfl ⟨rfl, hM⟩)
        · exact fun wx hM => gw rfl (g_move _ (.int .i64 (((j : Nat) : Int))) rfl ⟨rfl, hM⟩)
        · exact fun wx hM => gw rfl (g_ix _ _ 36 9 1 Try.underlying36 szof9 g2 0 ys.length c2 j (0 + j * 1) _ rfl rfl rfl (hxy ▸ hjl) rfl ⟨rfl, hM⟩)
        · exact fun wx hM => gw rfl (g_ld1 9 _ (g2) (0 + j * 1) _ rfl (ld9 _ _ _ _ (by rw [Nat.mul_one, Nat.zero_add]; exact sl_cell hM j _ (strs_at hu))) ⟨rfl, hM⟩)
        · exact fun wx hM => gw rfl (g_strN _ _ (t) (u) false true rfl rfl (decide_eq_false htu) rfl ⟨rfl, hM⟩)
      · simp only [fullL, Act.put, List.setIfInBounds_toArray, List.set_cons_succ, List.set_cons_zero]
        intro w17 hM
        refine hK16 _ _ ?_
        (try clear hK16 K16)
        refine wp_cond_true rfl ?_
        refine wp_seq_k (fun K18 hK18 => ?_)
        refine wl_region ?_
        refine wl_give rfl (g_assign _ (.bool false) rfl ?_)
        (try simp only [Act.put, List.setIfInBounds_toArray, List.set_cons_zero, List.set_cons_succ])
        refine wl_nil ?_
        refine hK18 _ _ ?_
        (try clear hK18 K18)
        refine wp_ret ?_
        have hnx : xs ≠ ys := fun e => htu (by rw [e] at ht; exact Option.some.inj (ht.symm.trans hu))
        rw [decide_eq_false hnx]
        (try simp only [Exit.then, Exit.inBlock, ↓reduceIte, Nat.reduceEqDiff])
        have h9 := sl_row (show Ms w0 w17 (sl 9 1 g1 c1 xs.length ((xs).map Value.string) :: sl 9 1 g2 c2 ys.length ((ys).map Value.string) :: R) from (hM.up 1 rfl))
        have h10 := (sl_row (h9.up 1 rfl)).up 1 rfl
        go_ret
        exact ⟨rfl, h10⟩
  · have hjn : j = xs.length := by omega
    subst hjn
    have hxe : xs = ys := by rw [List.take_length] at htk; rw [htk, hxy, List.take_length]
    refine wp_seq_k (fun K19 hK19 => ?_)
    refine wl_region ?_
    refine wl_give rfl (g_ilss 3 _ _ .i64 (((xs.length : Nat) : Int)) (((xs.length : Nat) : Int)) false rfl rfl (decide_eq_false hlt) ?_)
    (try simp only [Act.put, List.setIfInBounds_toArray, List.set_cons_zero, List.set_cons_succ])
    refine wl_nil ?_
    refine hK19 _ _ ?_
    (try clear hK19 K19)
    refine wp_seq_k (fun K20 hK20 => ?_)
    refine wp_cond_false rfl ?_
    refine wp_exit ?_
    refine hK4 _ _ ?_
    (try clear hK4 K4)
    refine wp_seq_k (fun K21 hK21 => ?_)
    refine wl_region ?_
    refine wl_give rfl (g_assign _ (.bool true) rfl ?_)
    (try simp only [Act.put, List.setIfInBounds_toArray, List.set_cons_zero, List.set_cons_succ])
    refine wl_nil ?_
    refine hK21 _ _ ?_
    (try clear hK21 K21)
    refine wp_ret ?_
    rw [decide_eq_true hxe]
    go_ret
    exact ⟨rfl, hM⟩
theorem texts_any {w0 w : World} {R : List HP} {xs ys : List ByteArray} {v1 v2 : Value} (hM : Ms w0 w (row 9 1 v1 (xs.length) ((xs).map Value.string) :: row 9 1 v2 (ys.length) ((ys).map Value.string) :: R)) (hb : xs.length ≤ 1000000) {r : Bool} (hr : decide (xs = ys) = r) : Calls Try.prog 16 #[v1, v2] w fun e w' => e = .returned (.bool r) ∧ Ms w0 w' (row 9 1 v1 (xs.length) ((xs).map Value.string) :: row 9 1 v2 (ys.length) ((ys).map Value.string) :: R) := by
  subst hr
  obtain ⟨o1, c1, rfl, _⟩ := row_slice hM
  obtain ⟨o2, c2, rfl, _⟩ := row_slice (hM.up 1 rfl)
  by_cases h : xs.length = ys.length
  · exact texts_eq hM h hb
  · rw [decide_eq_false (fun e => h (by rw [e]))]
    exact texts_ne hM (by omega)
end Go.Proofs.Ytpkjocibgmjhdaa
