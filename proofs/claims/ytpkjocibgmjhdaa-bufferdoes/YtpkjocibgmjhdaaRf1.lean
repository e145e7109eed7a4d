/- What the reference's Has, parted, Take and Drop answer. -/
import Derived.Test.YtpkjocibgmjhdaaActs
namespace Go.Proofs.Ytpkjocibgmjhdaa
set_option maxRecDepth 10000
open Go Go.RowKit
set_option linter.unusedVariables false
set_option linter.unusedSimpArgs false

theorem tcs_at : ∀ {L : List Thg} {j : Nat} {t : Thg}, L[j]? = some t → (tcs L)[j * 2]? = some (.int .i64 t.1) ∧ (tcs L)[j * 2 + 1]? = some (.string t.2)
  | [], j, t, h => by simp at h
  | u :: L, 0, t, h => by
    obtain rfl : u = t := by simpa using h
    exact ⟨rfl, rfl⟩
  | u :: L, j + 1, t, h => by
    have ih := tcs_at (L := L) (j := j) (t := t) (by simpa using h)
    have e : (j + 1) * 2 = j * 2 + 1 + 1 := by omega
    constructor
    · rw [e]; exact ih.1
    · rw [e]; exact ih.2
theorem tcs_snoc (L : List Thg) (t : Thg) : tcs (L ++ [t]) = tcs L ++ tc t := by unfold tcs; rw [List.flatMap_append]; simp
section
variable {w0 w : World} {R : List HP} {p : Nat} {x y d : Int} {L : List Thg}
theorem rb_open (h : Ms w0 w (rb p x y d L :: R)) : ∃ v, Ms w0 w (blk (p) ([.int .i64 (x), .int .i64 (y), .int .i64 (d), v]) 44 :: row 64 2 v ((L).length) (tcs (L)) :: R) := by
  obtain ⟨v, h⟩ := h.opn
  exact ⟨v, h⟩
theorem rb_mk {v : Value} (h : Ms w0 w (blk (p) ([.int .i64 (x), .int .i64 (y), .int .i64 (d), v]) 44 :: row 64 2 v ((L).length) (tcs (L)) :: R)) : Ms w0 w (rb p x y d L :: R) := Ms.shut v h
theorem rb_cut (h : Ms w0 w (rb p x y d L :: R)) : ∃ ao cap, Ms w0 w (blk p [.int .i64 x, .int .i64 y, .int .i64 d, .slice ao L.length cap] 44 :: row 64 2 (.slice ao L.length cap) L.length (tcs L) :: R) := by
  obtain ⟨v, h⟩ := rb_open h
  obtain ⟨ao, cap, rfl, _⟩ := row_slice (h.up 1 rfl)
  exact ⟨ao, cap, h⟩
end
set_option maxHeartbeats 4000000 in
theorem rhas_any {w0 w : World} {R : List HP} {p : Nat} {x y d : Int} {L : List Thg} {i : Int} {s : ByteArray} (hM : Ms w0 w (rb p x y d L :: R)) (hL : L.length ≤ 1000000) : Calls Try.prog 26 #[.pointer (some ⟨p, 0, none⟩), .int .i64 i, .string s] w fun e w' => e = .returned (.bool (hasT i s L)) ∧ Ms w0 w' (rb p x y d L :: R) := by
  obtain ⟨ao, cap, hM⟩ := rb_cut hM
  go_enter Try.func26, Try.ntmps26
  refine wp_seq_k (fun K1 hK1 => ?_)
  refine wl_region ?_
  refine wl_give rfl (g_assign _ (.bool false) rfl ?_)
  (try simp only [Act.put, List.setIfInBounds_toArray, List.set_cons_zero, List.set_cons_succ])
  refine wl_nil ?_
  refine hK1 _ _ ?_
  (try clear hK1 K1)
  refine wp_seq_k (fun K2 hK2 => ?_)
  refine wp_seq_k (fun K3 hK3 => ?_)
  refine wl_region ?_
  refine wl_give rfl (g_assign _ (.int .i64 (0)) rfl ?_)
  (try simp only [Act.put, List.setIfInBounds_toArray, List.set_cons_zero, List.set_cons_succ])
  refine wl_nil ?_
  refine hK3 _ _ ?_
  (try clear hK3 K3)
  refine wp_block ?_
  refine wp_rounds (fun m st wr => ∃ (j : Nat) (t : Nat → Value), st = ⟨#[.pointer (some ⟨p, 0, none⟩), .int .i64 (i), .string (s), undef, undef, undef, .bool false, .int .i64 ((j : Nat) : Int), t 8, t 9, t 10, t 11, t 12, t 13, t 14, t 15, t 16, t 17, t 18, t 19, t 20, t 21, t 22, t 23, t 24, t 25, t 26, t 27, t 28, t 29, t 30, t 31, t 32, t 33, t 34, t 35, t 36, t 37, t 38], []⟩ ∧ j + m = L.length ∧ hasT i s (L.take j) = false ∧ Ms w0 wr (blk (p) ([.int .i64 (x), .int .i64 (y), .int .i64 (d), .slice ao (L.length) (cap)]) 44 :: row 64 2 (.slice ao (L).length cap) ((L).length) (tcs (L)) :: R)) _ ⟨0, (tl [.pointer (some ⟨p, 0, none⟩), .int .i64 (i), .string (s), undef, undef, undef, .bool false, .int .i64 (0), undef, undef, undef, undef, undef, undef, undef, undef, undef, undef, undef, undef, undef, undef, undef, undef, undef, undef, undef, undef, undef, undef, undef, undef, undef, undef, undef, undef, undef, undef, undef]), rfl, Nat.zero_add _, rfl, hM⟩ ?_
  clear hM
  rintro m st wr ⟨j, u, rfl, hj, hno, hM⟩
  by_cases hlt : ((j : Nat) : Int) < ((L.length : Nat) : Int)
  · skip
    have hjl : j < L.length := by omega
    obtain ⟨t, ht⟩ : ∃ t, L[j]? = some t := ⟨_, List.getElem?_eq_getElem hjl⟩
    obtain ⟨g, k, hv, hM⟩ := row_sl (hM.up 1 rfl) (by omega)
    cases hv
    replace hM := hM.up 1 rfl
    have hj1 : Shut (IntKind.i64.wrap (((j : Nat) : Int) + 1) = ((j + 1 : Nat) : Int)) := ⟨by rw [wrap_id _ (by omega) (by omega)]; omega⟩
    replace hM : Ms w0 wr (blk (p) ([.int .i64 (x), .int .i64 (y), .int .i64 (d), .slice (some ⟨g, 0, none⟩) (L.length) (cap)]) 44 :: sl 64 2 g cap (L.length) (tcs L) :: R) := hM
    have htk : L.take (j + 1) = L.take j ++ [t] := by rw [List.take_add_one, ht]; rfl
    refine wp_seq_k (fun K4 hK4 => ?_)
    refine wp_seq_k (fun K5 hK5 => ?_)
    refine wl_region ?_
    refine wl_give rfl (g_move _ (.int .i64 (((j : Nat) : Int))) rfl ?_)
    (try simp only [Act.put, List.setIfInBounds_toArray, List.set_cons_zero, List.set_cons_succ])
    refine wl_give rfl (g_move _ (.pointer (some ⟨p, 0, none⟩)) rfl ?_)
    (try simp only [Act.put, List.setIfInBounds_toArray, List.set_cons_zero, List.set_cons_succ])
    refine wl_give rfl (g_nil _ ⟨p, 0, none⟩ rfl ?_)
    (try simp only [Act.put, List.setIfInBounds_toArray, List.set_cons_zero, List.set_cons_succ])
    refine wl_give rfl (g_fa 44 _ (p) (0) (3) 3 rfl (fa44_3 _ _ _) ?_)
    (try simp only [Act.put, List.setIfInBounds_toArray, List.set_cons_zero, List.set_cons_succ])
    refine wl_give rfl (g_ld1 42 _ (p) 3 _ rfl (ld42 _ _ _ _ ((hM.get 0 rfl).cell 3 _ rfl)) ?_)
    (try simp only [Act.put, List.setIfInBounds_toArray, List.set_cons_zero, List.set_cons_succ])
    refine wl_give rfl (g_len _ 42 64 ((some ⟨g, 0, none⟩)) (L.length) (cap) (((L.length : Nat) : Int)) Try.underlying42 rfl rfl ?_)
    (try simp only [Act.put, List.setIfInBounds_toArray, List.set_cons_zero, List.set_cons_succ])
    refine wl_give rfl (g_ilss 3 _ _ .i64 (((j : Nat) : Int)) (((L.length : Nat) : Int)) true rfl rfl (decide_eq_true hlt) ?_)
    (try simp only [Act.put, List.setIfInBounds_toArray, List.set_cons_zero, List.set_cons_succ])
    refine wl_nil ?_
    refine hK5 _ _ ?_
    (try clear hK5 K5)
    refine wp_cond_true rfl ?_
    refine wp_skip ?_
    refine hK4 _ _ ?_
    (try clear hK4 K4)
    refine wp_seq_k (fun K6 hK6 => ?_)
    refine wp_block ?_
    by_cases h1 : t.1 = i
    · by_cases h2 : t.2 = s
      · skip
        refine wp_seq_k (fun K7 hK7 => ?_)
        refine wl_region ?_
        refine wl_give rfl (g_move _ (.pointer (some ⟨p, 0, none⟩)) rfl ?_)
        (try simp only [Act.put, List.setIfInBounds_toArray, List.set_cons_zero, List.set_cons_succ])
        refine wl_give rfl (g_nil _ ⟨p, 0, none⟩ rfl ?_)
        (try simp only [Act.put, List.setIfInBounds_toArray, List.set_cons_zero, List.set_cons_succ])
        refine wl_give rfl (g_fa 44 _ (p) (0) (3) 3 rfl (fa44_3 _ _ _) ?_)
        (try simp only [Act.put, List.setIfInBounds_toArray, List.set_cons_zero, List.set_cons_succ])
        refine wl_give rfl (g_ld1 42 _ (p) 3 _ rfl (ld42 _ _ _ _ ((hM.get 0 rfl).cell 3 _ rfl)) ?_)
        (try simp only [Act.put, List.setIfInBounds_toArray, List.set_cons_zero, List.set_cons_succ])
        refine wl_give rfl (g_move _ (.int .i64 (((j : Nat) : Int))) rfl ?_)
        (try simp only [Act.put, List.setIfInBounds_toArray, List.set_cons_zero, List.set_cons_succ])
        refine wl_give rfl (g_ix _ _ 42 64 2 Try.underlying42 szof64 g 0 L.length cap j (0 + j * 2) _ rfl rfl rfl hjl rfl ?_)
        (try simp only [Act.put, List.setIfInBounds_toArray, List.set_cons_zero, List.set_cons_succ])
        refine wl_give rfl (g_fa 64 _ g (0 + j * 2) (0 + j * 2) 0 rfl (fa64_0 _ _ _) ?_)
        (try simp only [Act.put, List.setIfInBounds_toArray, List.set_cons_zero, List.set_cons_succ])
        refine wl_give rfl (g_ld1 3 _ (g) (0 + j * 2) _ rfl (ld3 _ _ _ _ (by rw [Nat.zero_add]; exact sl_cell (show Ms w0 _ (sl 64 2 g cap (L.length) (tcs L) :: blk (p) ([.int .i64 (x), .int .i64 (y), .int .i64 (d), .slice (some ⟨g, 0, none⟩) (L.length) (cap)]) 44 :: R) from (hM.up 1 rfl)) _ _ (tcs_at ht).1)) ?_)
        (try simp only [Act.put, List.setIfInBounds_toArray, List.set_cons_zero, List.set_cons_succ])
        refine wl_give rfl (g_move _ (.int .i64 (i)) rfl ?_)
        (try simp only [Act.put, List.setIfInBounds_toArray, List.set_cons_zero, List.set_cons_succ])
        refine wl_give rfl (g_ieq 3 _ _ .i64 (t.1) (i) true rfl rfl (decide_eq_true h1) ?_)
        (try simp only [Act.put, List.setIfInBounds_toArray, List.set_cons_zero, List.set_cons_succ])
        refine wl_give rfl (g_move _ (.bool true) rfl ?_)
        (try simp only [Act.put, List.setIfInBounds_toArray, List.set_cons_zero, List.set_cons_succ])
        refine wl_give rfl (g_move _ (.pointer (some ⟨p, 0, none⟩)) rfl ?_)
        (try simp only [Act.put, List.setIfInBounds_toArray, List.set_cons_zero, List.set_cons_succ])
        refine wl_give rfl (g_nil _ ⟨p, 0, none⟩ rfl ?_)
        (try simp only [Act.put, List.setIfInBounds_toArray, List.set_cons_zero, List.set_cons_succ])
        refine wl_give rfl (g_fa 44 _ (p) (0) (3) 3 rfl (fa44_3 _ _ _) ?_)
        (try simp only [Act.put, List.setIfInBounds_toArray, List.set_cons_zero, List.set_cons_succ])
        refine wl_give rfl (g_ld1 42 _ (p) 3 _ rfl (ld42 _ _ _ _ ((hM.get 0 rfl).cell 3 _ rfl)) ?_)
        (try simp only [Act.put, List.setIfInBounds_toArray, List.set_cons_zero, List.set_cons_succ])
        refine wl_give rfl (g_move _ (.int .i64 (((j : Nat) : Int))) rfl ?_)
        (try simp only [Act.put, List.setIfInBounds_toArray, List.set_cons_zero, List.set_cons_succ])
        refine wl_give rfl (g_ix _ _ 42 64 2 Try.underlying42 szof64 g 0 L.length cap j (0 + j * 2) _ rfl rfl rfl hjl rfl ?_)
        (try simp only [Act.put, List.setIfInBounds_toArray, List.set_cons_zero, List.set_cons_succ])
        refine wl_give rfl (g_fa 64 _ g (0 + j * 2) (0 + j * 2 + 1) 1 rfl (fa64_1 _ _ _) ?_)
        (try simp only [Act.put, List.setIfInBounds_toArray, List.set_cons_zero, List.set_cons_succ])
        refine wl_give rfl (g_ld1 9 _ (g) (0 + j * 2 + 1) _ rfl (ld9 _ _ _ _ (by rw [Nat.zero_add]; exact sl_cell (show Ms w0 _ (sl 64 2 g cap (L.length) (tcs L) :: blk (p) ([.int .i64 (x), .int .i64 (y), .int .i64 (d), .slice (some ⟨g, 0, none⟩) (L.length) (cap)]) 44 :: R) from (hM.up 1 rfl)) _ _ (tcs_at ht).2)) ?_)
        (try simp only [Act.put, List.setIfInBounds_toArray, List.set_cons_zero, List.set_cons_succ])
        refine wl_give rfl (g_move _ (.string (s)) rfl ?_)
        (try simp only [Act.put, List.setIfInBounds_toArray, List.set_cons_zero, List.set_cons_succ])
        refine wl_give rfl (g_steq 9 _ _ (t.2) (s) true rfl rfl (decide_eq_true h2) ?_)
        (try simp only [Act.put, List.setIfInBounds_toArray, List.set_cons_zero, List.set_cons_succ])
        refine wl_give rfl (g_pickt _ _ _ (.bool true) rfl rfl ?_)
        (try simp only [Act.put, List.setIfInBounds_toArray, List.set_cons_zero, List.set_cons_succ])
        refine wl_nil ?_
        refine hK7 _ _ ?_
        (try clear hK7 K7)
        refine wp_cond_true rfl ?_
        refine wp_seq_k (fun K8 hK8 => ?_)
        refine wl_region ?_
        refine wl_give rfl (g_assign _ (.bool true) rfl ?_)
        (try simp only [Act.put, List.setIfInBounds_toArray, List.set_cons_zero, List.set_cons_succ])
        refine wl_nil ?_
        refine hK8 _ _ ?_
        (try clear hK8 K8)
        refine wp_ret ?_
        have hyes : hasT i s L = true := hasT_iff.2 (by rw [← h1, ← h2]; exact List.mem_of_getElem? ht)
        rw [hyes]
        have h9 := rb_mk ((sl_row ((hM.up 0 rfl).up 1 rfl)).up 1 rfl)
        (try simp only [Exit.then, Exit.inBlock, ↓reduceIte, Nat.reduceEqDiff])
        go_ret
        exact ⟨rfl, h9⟩
      · skip
        refine wp_seq_k (fun K9 hK9 => ?_)
        refine wl_region ?_
        refine wl_give rfl (g_move _ (.pointer (some ⟨p, 0, none⟩)) rfl ?_)
        (try simp only [Act.put, List.setIfInBounds_toArray, List.set_cons_zero, List.set_cons_succ])
        refine wl_give rfl (g_nil _ ⟨p, 0, none⟩ rfl ?_)
        (try simp only [Act.put, List.setIfInBounds_toArray, List.set_cons_zero, List.set_cons_succ])
        refine wl_give rfl (g_fa 44 _ (p) (0) (3) 3 rfl (fa44_3 _ _ _) ?_)
        (try simp only [Act.put, List.setIfInBounds_toArray, List.set_cons_zero, List.set_cons_succ])
        refine wl_give rfl (g_ld1 42 _ (p) 3 _ rfl (ld42 _ _ _ _ ((hM.get 0 rfl).cell 3 _ rfl)) ?_)
        (try simp only [Act.put, List.setIfInBounds_toArray, List.set_cons_zero, List.set_cons_succ])
        refine wl_give rfl (g_move _ (.int .i64 (((j : Nat) : Int))) rfl ?_)
        (try simp only [Act.put, List.setIfInBounds_toArray, List.set_cons_zero, List.set_cons_succ])
        refine wl_give rfl (g_ix _ _ 42 64 2 Try.underlying42 szof64 g 0 L.length cap j (0 + j * 2) _ rfl rfl rfl hjl rfl ?_)
        (try simp only [Act.put, List.setIfInBounds_toArray, List.set_cons_zero, List.set_cons_succ])
        refine wl_give rfl (g_fa 64 _ g (0 + j * 2) (0 + j * 2) 0 rfl (fa64_0 _ _ _) ?_)
        (try simp only [Act.put, List.setIfInBounds_toArray, List.set_cons_zero, List.set_cons_succ])
        refine wl_give rfl (g_ld1 3 _ (g) (0 + j * 2) _ rfl (ld3 _ _ _ _ (by rw [Nat.zero_add]; exact sl_cell (show Ms w0 _ (sl 64 2 g cap (L.length) (tcs L) :: blk (p) ([.int .i64 (x), .int .i64 (y), .int .i64 (d), .slice (some ⟨g, 0, none⟩) (L.length) (cap)]) 44 :: R) from (hM.up 1 rfl)) _ _ (tcs_at ht).1)) ?_)
        (try simp only [Act.put, List.setIfInBounds_toArray, List.set_cons_zero, List.set_cons_succ])
        refine wl_give rfl (g_move _ (.int .i64 (i)) rfl ?_)
        (try simp only [Act.put, List.setIfInBounds_toArray, List.set_cons_zero, List.set_cons_succ])
        refine wl_give rfl (g_ieq 3 _ _ .i64 (t.1) (i) true rfl rfl (decide_eq_true h1) ?_)
        (try simp only [Act.put, List.setIfInBounds_toArray, List.set_cons_zero, List.set_cons_succ])
        refine wl_give rfl (g_move _ (.bool true) rfl ?_)
        (try simp only [Act.put, List.setIfInBounds_toArray, List.set_cons_zero, List.set_cons_succ])
        refine wl_give rfl (g_move _ (.pointer (some ⟨p, 0, none⟩)) rfl ?_)
        (try simp only [Act.put, List.setIfInBounds_toArray, List.set_cons_zero, List.set_cons_succ])
        refine wl_give rfl (g_nil _ ⟨p, 0, none⟩ rfl ?_)
        (try simp only [Act.put, List.setIfInBounds_toArray, List.set_cons_zero, List.set_cons_succ])
        refine wl_give rfl (g_fa 44 _ (p) (0) (3) 3 rfl (fa44_3 _ _ _) ?_)
        (try simp only [Act.put, List.setIfInBounds_toArray, List.set_cons_zero, List.set_cons_succ])
        refine wl_give rfl (g_ld1 42 _ (p) 3 _ rfl (ld42 _ _ _ _ ((hM.get 0 rfl).cell 3 _ rfl)) ?_)
        (try simp only [Act.put, List.setIfInBounds_toArray, List.set_cons_zero, List.set_cons_succ])
        refine wl_give rfl (g_move _ (.int .i64 (((j : Nat) : Int))) rfl ?_)
        (try simp only [Act.put, List.setIfInBounds_toArray, List.set_cons_zero, List.set_cons_succ])
        refine wl_give rfl (g_ix _ _ 42 64 2 Try.underlying42 szof64 g 0 L.length cap j (0 + j * 2) _ rfl rfl rfl hjl rfl ?_)
        (try simp only [Act.put, List.setIfInBounds_toArray, List.set_cons_zero, List.set_cons_succ])
        refine wl_give rfl (g_fa 64 _ g (0 + j * 2) (0 + j * 2 + 1) 1 rfl (fa64_1 _ _ _) ?_)
        (try simp only [Act.put, List.setIfInBounds_toArray, List.set_cons_zero, List.set_cons_succ])
        refine wl_give rfl (g_ld1 9 _ (g) (0 + j * 2 + 1) _ rfl (ld9 _ _ _ _ (by rw [Nat.zero_add]; exact sl_cell (show Ms w0 _ (sl 64 2 g cap (L.length) (tcs L) :: blk (p) ([.int .i64 (x), .int .i64 (y), .int .i64 (d), .slice (some ⟨g, 0, none⟩) (L.length) (cap)]) 44 :: R) from (hM.up 1 rfl)) _ _ (tcs_at ht).2)) ?_)
        (try simp only [Act.put, List.setIfInBounds_toArray, List.set_cons_zero, List.set_cons_succ])
        refine wl_give rfl (g_move _ (.string (s)) rfl ?_)
        (try simp only [Act.put, List.setIfInBounds_toArray, List.set_cons_zero, List.set_cons_succ])
        refine wl_give rfl (g_steq 9 _ _ (t.2) (s) false rfl rfl (decide_eq_false h2) ?_)
        (try simp only [Act.put, List.setIfInBounds_toArray, List.set_cons_zero, List.set_cons_succ])
        refine wl_give rfl (g_pickt _ _ _ (.bool false) rfl rfl ?_)
        (try simp only [Act.put, List.setIfInBounds_toArray, List.set_cons_zero, List.set_cons_succ])
        refine wl_nil ?_
        refine hK9 _ _ ?_
        (try clear hK9 K9)
        refine wp_cond_false rfl ?_
        refine wp_skip ?_
        refine hK6 _ _ ?_
        (try clear hK6 K6)
        refine wl_region ?_
        refine wl_give rfl (g_move _ (.int .i64 (((j : Nat) : Int))) rfl ?_)
        (try simp only [Act.put, List.setIfInBounds_toArray, List.set_cons_zero, List.set_cons_succ])
        refine wl_give rfl (g_ia 3 _ _ .i64 (((j : Nat) : Int)) (1) (((j + 1 : Nat) : Int)) rfl rfl (hj1.out) ?_)
        (try simp only [Act.put, List.setIfInBounds_toArray, List.set_cons_zero, List.set_cons_succ])
        refine wl_give rfl (g_assign _ (.int .i64 (((j + 1 : Nat) : Int))) rfl ?_)
        (try simp only [Act.put, List.setIfInBounds_toArray, List.set_cons_zero, List.set_cons_succ])
        refine wl_nil ?_
        (try simp only [Exit.then, Exit.inBlock, ↓reduceIte, Nat.reduceEqDiff])
        have h9 := (sl_row ((hM.up 0 rfl).up 1 rfl)).up 1 rfl
        exact ⟨m - 1, by omega, j + 1, (tl [.pointer (some ⟨p, 0, none⟩), .int .i64 (i), .string (s), undef, undef, undef, .bool false, .int .i64 (((j + 1 : Nat) : Int)), .int .i64 (((j : Nat) : Int)), .pointer (some ⟨p, 0, none⟩), .pointer (some ⟨p, 0, none⟩), .pointer (some ⟨p, 3, none⟩), .slice (some ⟨g, 0, none⟩) (L.length) (cap), .int .i64 (((L.length : Nat) : Int)), .bool true, .int .i64 (((j : Nat) : Int)), .int .i64 (((j + 1 : Nat) : Int)), .pointer (some ⟨p, 0, none⟩), .pointer (some ⟨p, 0, none⟩), .pointer (some ⟨p, 3, none⟩), .slice (some ⟨g, 0, none⟩) (L.length) (cap), .int .i64 (((j : Nat) : Int)), .pointer (some ⟨g, 0 + j * 2, none⟩), .pointer (some ⟨g, 0 + j * 2, none⟩), .int .i64 (t.1), .int .i64 (i), .bool true, .bool true, .pointer (some ⟨p, 0, none⟩), .pointer (some ⟨p, 0, none⟩), .pointer (some ⟨p, 3, none⟩), .slice (some ⟨g, 0, none⟩) (L.length) (cap), .int .i64 (((j : Nat) : Int)), .pointer (some ⟨g, 0 + j * 2, none⟩), .pointer (some ⟨g, 0 + j * 2 + 1, none⟩), .string (t.2), .string (s), .bool false, .bool false]), rfl, by omega, by rw [htk]; unfold hasT at *; rw [List.any_append, hno]; simp [h2], h9⟩
    · skip
      refine wp_seq_k (fun K10 hK10 => ?_)
      refine wl_region ?_
      refine wl_give rfl (g_move _ (.pointer (some ⟨p, 0, none⟩)) rfl ?_)
      (try simp only [Act.put, List.setIfInBounds_toArray, List.set_cons_zero, List.set_cons_succ])
      refine wl_give rfl (g_nil _ ⟨p, 0, none⟩ rfl ?_)
      (try simp only [Act.put, List.setIfInBounds_toArray, List.set_cons_zero, List.set_cons_succ])
      refine wl_give rfl (g_fa 44 _ (p) (0) (3) 3 rfl (fa44_3 _ _ _) ?_)
      (try simp only [Act.put, List.setIfInBounds_toArray, List.set_cons_zero, List.set_cons_succ])
      refine wl_give rfl (g_ld1 42 _ (p) 3 _ rfl (ld42 _ _ _ _ ((hM.get 0 rfl).cell 3 _ rfl)) ?_)
      (try simp only [Act.put, List.setIfInBounds_toArray, List.set_cons_zero, List.set_cons_succ])
      refine wl_give rfl (g_move _ (.int .i64 (((j : Nat) : Int))) rfl ?_)
      (try simp only [Act.put, List.setIfInBounds_toArray, List.set_cons_zero, List.set_cons_succ])
      refine wl_give rfl (g_ix _ _ 42 64 2 Try.underlying42 szof64 g 0 L.length cap j (0 + j * 2) _ rfl rfl rfl hjl rfl ?_)
      (try simp only [Act.put, List.setIfInBounds_toArray, List.set_cons_zero, List.set_cons_succ])
      refine wl_give rfl (g_fa 64 _ g (0 + j * 2) (0 + j * 2) 0 rfl (fa64_0 _ _ _) ?_)
      (try simp only [Act.put, List.setIfInBounds_toArray, List.set_cons_zero, List.set_cons_succ])
      refine wl_give rfl (g_ld1 3 _ (g) (0 + j * 2) _ rfl (ld3 _ _ _ _ (by rw [Nat.zero_add]; exact sl_cell (show Ms w0 _ (sl 64 2 g cap (L.length) (tcs L) :: blk (p) ([.int .i64 (x), .int .i64 (y), .int .i64 (d), .slice (some ⟨g, 0, none⟩) (L.length) (cap)]) 44 :: R) from (hM.up 1 rfl)) _ _ (tcs_at ht).1)) ?_)
      (try simp only [Act.put, List.setIfInBounds_toArray, List.set_cons_zero, List.set_cons_succ])
      refine wl_give rfl (g_move _ (.int .i64 (i)) rfl ?_)
      (try simp only [Act.put, List.setIfInBounds_toArray, List.set_cons_zero, List.set_cons_succ])
      refine wl_give rfl (g_ieq 3 _ _ .i64 (t.1) (i) false rfl rfl (decide_eq_false h1) ?_)
      (try simp only [Act.put, List.setIfInBounds_toArray, List.set_cons_zero, List.set_cons_succ])
      refine wl_give rfl (g_move _ (.bool false) rfl ?_)
      (try simp only [Act.put, List.setIfInBounds_toArray, List.set_cons_zero, List.set_cons_succ])
      refine wl_skip rfl ?_
      (try simp only [Act.put, List.setIfInBounds_toArray, List.set_cons_zero, List.set_cons_succ])
      refine wl_skip rfl ?_
      (try simp only [Act.put, List.setIfInBounds_toArray, List.set_cons_zero, List.set_cons_succ])
      refine wl_skip rfl ?_
      (try simp only [Act.put, List.setIfInBounds_toArray, List.set_cons_zero, List.set_cons_succ])
      refine wl_skip rfl ?_
      (try simp only [Act.put, List.setIfInBounds_toArray, List.set_cons_zero, List.set_cons_succ])
      refine wl_skip rfl ?_
      (try simp only [Act.put, List.setIfInBounds_toArray, List.set_cons_zero, List.set_cons_succ])
      refine wl_skip rfl ?_
      (try simp only [Act.put, List.setIfInBounds_toArray, List.set_cons_zero, List.set_cons_succ])
      refine wl_skip rfl ?_
      (try simp only [Act.put, List.setIfInBounds_toArray, List.set_cons_zero, List.set_cons_succ])
      refine wl_skip rfl ?_
      (try simp only [Act.put, List.setIfInBounds_toArray, List.set_cons_zero, List.set_cons_succ])
      refine wl_skip rfl ?_
      (try simp only [Act.put, List.setIfInBounds_toArray, List.set_cons_zero, List.set_cons_succ])
      refine wl_skip rfl ?_
      (try simp only [Act.put, List.setIfInBounds_toArray, List.set_cons_zero, List.set_cons_succ])
      refine wl_give rfl (g_pickf _ _ _ (.bool false) rfl rfl ?_)
      (try simp only [Act.put, List.setIfInBounds_toArray, List.set_cons_zero, List.set_cons_succ])
      refine wl_nil ?_
      refine hK10 _ _ ?_
      (try clear hK10 K10)
      refine wp_cond_false rfl ?_
      refine wp_skip ?_
      refine hK6 _ _ ?_
      (try clear hK6 K6)
      refine wl_region ?_
      refine wl_give rfl (g_move _ (.int .i64 (((j : Nat) : Int))) rfl ?_)
      (try simp only [Act.put, List.setIfInBounds_toArray, List.set_cons_zero, List.set_cons_succ])
      refine wl_give rfl (g_ia 3 _ _ .i64 (((j : Nat) : Int)) (1) (((j + 1 : Nat) : Int)) rfl rfl (hj1.out) ?_)
      (try simp only [Act.put, List.setIfInBounds_toArray, List.set_cons_zero, List.set_cons_succ])
      refine wl_give rfl (g_assign _ (.int .i64 (((j + 1 : Nat) : Int))) rfl ?_)
      (try simp only [Act.put, List.setIfInBounds_toArray, List.set_cons_zero, List.set_cons_succ])
      refine wl_nil ?_
      (try simp only [Exit.then, Exit.inBlock, ↓reduceIte, Nat.reduceEqDiff])
      have h9 := (sl_row ((hM.up 0 rfl).up 1 rfl)).up 1 rfl
      exact ⟨m - 1, by omega, j + 1, (tl [.pointer (some ⟨p, 0, none⟩), .int .i64 (i), .string (s), undef, undef, undef, .bool false, .int .i64 (((j + 1 : Nat) : Int)), .int .i64 (((j : Nat) : Int)), .pointer (some ⟨p, 0, none⟩), .pointer (some ⟨p, 0, none⟩), .pointer (some ⟨p, 3, none⟩), .slice (some ⟨g, 0, none⟩) (L.length) (cap), .int .i64 (((L.length : Nat) : Int)), .bool true, .int .i64 (((j : Nat) : Int)), .int .i64 (((j + 1 : Nat) : Int)), .pointer (some ⟨p, 0, none⟩), .pointer (some ⟨p, 0, none⟩), .pointer (some ⟨p, 3, none⟩), .slice (some ⟨g, 0, none⟩) (L.length) (cap), .int .i64 (((j : Nat) : Int)), .pointer (some ⟨g, 0 + j * 2, none⟩), .pointer (some ⟨g, 0 + j * 2, none⟩), .int .i64 (t.1), .int .i64 (i), .bool false, .bool false, undef, undef, undef, undef, undef, undef, undef, undef, undef, undef, .bool false]), rfl, by omega, by rw [htk]; unfold hasT at *; rw [List.any_append, hno]; simp [h1], h9⟩
  · have hjn : j = L.length := by omega
    have hnone : hasT i s L = false := by rw [hjn, List.take_length] at hno; exact hno
    refine wp_seq_k (fun K11 hK11 => ?_)
    refine wp_seq_k (fun K12 hK12 => ?_)
    refine wl_region ?_
    refine wl_give rfl (g_move _ (.int .i64 (((j : Nat) : Int))) rfl ?_)
    (try simp only [Act.put, List.setIfInBounds_toArray, List.set_cons_zero, List.set_cons_succ])
    refine wl_give rfl (g_move _ (.pointer (some ⟨p, 0, none⟩)) rfl ?_)
    (try simp only [Act.put, List.setIfInBounds_toArray, List.set_cons_zero, List.set_cons_succ])
    refine wl_give rfl (g_nil _ ⟨p, 0, none⟩ rfl ?_)
    (try simp only [Act.put, List.setIfInBounds_toArray, List.set_cons_zero, List.set_cons_succ])
    refine wl_give rfl (g_fa 44 _ (p) (0) (3) 3 rfl (fa44_3 _ _ _) ?_)
    (try simp only [Act.put, List.setIfInBounds_toArray, List.set_cons_zero, List.set_cons_succ])
    refine wl_give rfl (g_ld1 42 _ (p) 3 _ rfl (ld42 _ _ _ _ ((hM.get 0 rfl).cell 3 _ rfl)) ?_)
    (try simp only [Act.put, List.setIfInBounds_toArray, List.set_cons_zero, List.set_cons_succ])
    refine wl_give rfl (g_len _ 42 64 (ao) (L.length) (cap) (((L.length : Nat) : Int)) Try.underlying42 rfl rfl ?_)
    (try simp only [Act.put, List.setIfInBounds_toArray, List.set_cons_zero, List.set_cons_succ])
    refine wl_give rfl (g_ilss 3 _ _ .i64 (((j : Nat) : Int)) (((L.length : Nat) : Int)) false rfl rfl (decide_eq_false hlt) ?_)
    (try simp only [Act.put, List.setIfInBounds_toArray, List.set_cons_zero, List.set_cons_succ])
    refine wl_nil ?_
    refine hK12 _ _ ?_
    (try clear hK12 K12)
    refine wp_cond_false rfl ?_
    refine wp_exit ?_
    refine hK2 _ _ ?_
    (try clear hK2 K2)
    refine wp_seq_k (fun K13 hK13 => ?_)
    refine wl_region ?_
    refine wl_give rfl (g_assign _ (.bool false) rfl ?_)
    (try simp only [Act.put, List.setIfInBounds_toArray, List.set_cons_zero, List.set_cons_succ])
    refine wl_nil ?_
    refine hK13 _ _ ?_
    (try clear hK13 K13)
    refine wp_ret ?_
    rw [hnone]
    have h9 := rb_mk hM
    go_ret
    exact ⟨rfl, h9⟩
end Go.Proofs.Ytpkjocibgmjhdaa
