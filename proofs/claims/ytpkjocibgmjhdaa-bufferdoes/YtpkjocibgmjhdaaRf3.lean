/- What the reference's Intervals answers. -/
import Derived.Test.YtpkjocibgmjhdaaRf2
namespace Go.Proofs.Ytpkjocibgmjhdaa
set_option maxRecDepth 10000
open Go Go.RowKit
set_option linter.unusedVariables false
set_option linter.unusedSimpArgs false

theorem enc_at {l : List Int} {j : Nat} {t : Int} (h : l[j]? = some t) : (l.map encZ)[j]? = some (.int .i64 t) := by rw [List.getElem?_map, h]; rfl
/-- So far the list l was made of x and of what of the rising ones was gone through: x is in it (dn), or it is yet to come. -/
def InsI (x : Int) (K : List Int) (dn : Bool) (l : List Int) : Prop :=
  l.length ≤ K.length + 1 ∧ if dn then ∀ r, ins x (K ++ r) = l ++ r else l = K ∧ ∀ r, ins x (K ++ r) = K ++ ins x r
section
variable {x y : Int} {K l : List Int}
theorem insI_nil : InsI x [] false [] := ⟨by simp, rfl, fun r => rfl⟩
theorem insI_done (h : InsI x K true l) : InsI x (K ++ [y]) true (l ++ [y]) :=
  ⟨by have := h.1; simp; omega, fun r => by have := h.2 ([y] ++ r); simpa using this⟩
theorem insI_lt (h : InsI x K false l) (hx : x < y) : InsI x (K ++ [y]) true (l ++ [x] ++ [y]) := by
  obtain ⟨h1, rfl, h2⟩ := h
  refine ⟨by simp, fun r => ?_⟩
  have := h2 ([y] ++ r)
  rw [← List.append_assoc] at this
  rw [this]
  simp [ins, hx]
theorem insI_eq (h : InsI x K false l) (hx : x = y) : InsI x (K ++ [y]) true (l ++ [y]) := by
  obtain ⟨h1, rfl, h2⟩ := h
  subst hx
  refine ⟨by simp, fun r => ?_⟩
  have := h2 ([x] ++ r)
  rw [← List.append_assoc] at this
  rw [this]
  simp [ins]
theorem insI_gt (h : InsI x K false l) (hx : ¬ x ≤ y) : InsI x (K ++ [y]) false (l ++ [y]) := by
  obtain ⟨h1, rfl, h2⟩ := h
  refine ⟨by simp, rfl, fun r => ?_⟩
  have := h2 ([y] ++ r)
  rw [← List.append_assoc] at this
  rw [this]
  simp [ins, show ¬ x < y by omega, show ¬ x = y by omega]
theorem insI_t (h : InsI x K true l) : ins x K = l := by have := h.2 []; simpa using this
theorem insI_f (h : InsI x K false l) : ins x K = l ++ [x] := by
  obtain ⟨h1, rfl, h2⟩ := h
  have := h2 []
  simpa [ins] using this
end
set_option maxHeartbeats 4000000 in
theorem rivals_op {w0 w : World} {R : List HP} {p : Nat} {x y d : Int} {L : List Thg} {ao : Option Addr} {cap : Nat} (hM : Ms w0 w (blk (p) ([.int .i64 (x), .int .i64 (y), .int .i64 (d), .slice ao (L.length) (cap)]) 44 :: row 64 2 (.slice ao (L).length cap) ((L).length) (tcs (L)) :: R)) (hL : L.length ≤ 10000) : Calls Try.prog 22 #[.pointer (some ⟨p, 0, none⟩)] w fun e w' => ∃ o1 k1, e = .returned (.slice o1 (ivs L).length k1) ∧ Ms w0 w' (row 3 1 (.slice o1 (ivs L).length k1) ((ivs L).length) ((ivs L).map encZ) :: blk (p) ([.int .i64 (x), .int .i64 (y), .int .i64 (d), .slice ao (L.length) (cap)]) 44 :: row 64 2 (.slice ao (L).length cap) ((L).length) (tcs (L)) :: R) := by
  go_enter Try.func22, Try.ntmps22
  refine wp_seq_k (fun K1 hK1 => ?_)
  refine wl_region ?_
  refine wl_give rfl (g_assign _ (.slice none (0) (0)) rfl ?_)
  (try simp only [Act.put, List.setIfInBounds_toArray, List.set_cons_zero, List.set_cons_succ])
  refine wl_nil ?_
  refine hK1 _ _ ?_
  (try clear hK1 K1)
  refine wp_seq_k (fun K2 hK2 => ?_)
  refine wl_region ?_
  refine wl_give rfl (g_bs0 39 3 1 Try.underlying39 szof3 _ Try.zeroValue3 hM ?_)
  intro w3 h_
  replace hM : Ms w0 w3 (row 3 1 (.slice (some ⟨w.heap.size, 0, none⟩) 0 0) (0) ([]) :: blk (p) ([.int .i64 (x), .int .i64 (y), .int .i64 (d), .slice ao (L.length) (cap)]) 44 :: row 64 2 (.slice ao (L).length cap) ((L).length) (tcs (L)) :: R) := h_
  clear h_
  (try simp only [Act.put, List.setIfInBounds_toArray, List.set_cons_zero, List.set_cons_succ])
  refine wl_give rfl (g_assign _ (.slice (some ⟨w.heap.size, 0, none⟩) (0) (0)) rfl ?_)
  (try simp only [Act.put, List.setIfInBounds_toArray, List.set_cons_zero, List.set_cons_succ])
  refine wl_nil ?_
  refine hK2 _ _ ?_
  (try clear hK2 K2)
  refine wp_seq_k (fun K4 hK4 => ?_)
  refine wp_seq_k (fun K5 hK5 => ?_)
  refine wl_region ?_
  refine wl_give rfl (g_assign _ (.int .i64 (0)) rfl ?_)
  (try simp only [Act.put, List.setIfInBounds_toArray, List.set_cons_zero, List.set_cons_succ])
  refine wl_nil ?_
  refine hK5 _ _ ?_
  (try clear hK5 K5)
  refine wp_block ?_
  have h9 := (((hM.up 2 rfl).up 2 rfl).up 2 rfl)
  refine wp_rounds (fun m st wr => ∃ (j : Nat) (v : Value) (t : Nat → Value), st = ⟨#[.pointer (some ⟨p, 0, none⟩), undef, .slice none (0) (0), v, .int .i64 ((j : Nat) : Int), t 5, t 6, t 7, t 8, t 9, t 10, t 11, t 12, t 13, t 14, t 15, t 16, t 17, t 18, t 19, t 20, t 21, t 22, t 23, t 24, t 25, t 26, t 27, t 28, t 29, t 30, t 31, t 32, t 33, t 34, t 35, t 36, t 37, t 38, t 39, t 40, t 41, t 42, t 43, t 44, t 45, t 46, t 47, t 48, t 49, t 50, t 51, t 52, t 53, t 54, t 55, t 56, t 57, t 58, t 59, t 60, t 61, t 62, t 63, t 64, t 65, t 66, t 67, t 68, t 69, t 70, t 71, t 72, t 73, t 74, t 75, t 76, t 77, t 78, t 79, t 80, t 81, t 82, t 83, t 84, t 85, t 86, t 87], []⟩ ∧ j + m = L.length ∧ Ms w0 wr (row 3 1 v ((ivs (L.take j)).length) ((ivs (L.take j)).map encZ) :: blk (p) ([.int .i64 (x), .int .i64 (y), .int .i64 (d), .slice ao (L.length) (cap)]) 44 :: row 64 2 (.slice ao (L).length cap) ((L).length) (tcs (L)) :: R)) _ ⟨0, .slice (some ⟨w.heap.size, 0, none⟩) (0) (0), (tl [.pointer (some ⟨p, 0, none⟩), undef, .slice none (0) (0), .slice (some ⟨w.heap.size, 0, none⟩) (0) (0), .int .i64 (0), undef, undef, undef, .slice (some ⟨w.heap.size, 0, none⟩) (0) (0), undef, undef, undef, undef, undef, undef, undef, undef, undef, undef, undef, undef, undef, undef, undef, undef, undef, undef, undef, undef, undef, undef, undef, undef, undef, undef, undef, undef, undef, undef, undef, undef, undef, undef, undef, undef, undef, undef, undef, undef, undef, undef, undef, undef, undef, undef, undef, undef, undef, undef, undef, undef, undef, undef, undef, undef, undef, undef, undef, undef, undef, undef, undef, undef, undef, undef, undef, undef, undef, undef, undef, undef, undef, undef, undef, undef, undef, undef, undef]), rfl, Nat.zero_add _, h9⟩ ?_
  clear h9 hM
  rintro m st wr ⟨j, v, u, rfl, hj, hM⟩
  by_cases hlt : ((j : Nat) : Int) < ((L.length : Nat) : Int)
  · skip
    have hjl : j < L.length := by omega
    obtain ⟨t, ht⟩ : ∃ t, L[j]? = some t := ⟨_, List.getElem?_eq_getElem hjl⟩
    obtain ⟨g, k, hv, hM⟩ := row_sl (hM.up 2 rfl) (by omega)
    cases hv
    have hj1 : Shut (IntKind.i64.wrap (((j : Nat) : Int) + 1) = ((j + 1 : Nat) : Int)) := ⟨by rw [wrap_id _ (by omega) (by omega)]; omega⟩
    have htk : ivs (L.take (j + 1)) = ins t.1 (ivs (L.take j)) := by rw [List.take_add_one, ht]; exact ivs_snoc _ _
    have hOl : (ivs (L.take j)).length ≤ L.length := Nat.le_trans (ivs_le _) (by rw [List.length_take]; omega)
    obtain ⟨O, hO⟩ : ∃ O, O = ivs (L.take j) := ⟨_, rfl⟩
    rw [← hO] at hM hOl htk
    obtain ⟨o3, c3, rfl, _⟩ := row_slice (hM.up 1 rfl)
    replace hM : Ms w0 wr (sl 64 2 g cap (L.length) (tcs L) :: row 3 1 (.slice o3 (O).length c3) ((O).length) ((O).map encZ) :: blk (p) ([.int .i64 (x), .int .i64 (y), .int .i64 (d), .slice (some ⟨g, 0, none⟩) (L.length) (cap)]) 44 :: R) := hM
    refine wp_seq_k (fun K6 hK6 => ?_)
    refine wp_seq_k (fun K7 hK7 => ?_)
    refine wl_region ?_
    refine wl_give rfl (g_move _ (.int .i64 (((j : Nat) : Int))) rfl ?_)
    (try simp only [Act.put, List.setIfInBounds_toArray, List.set_cons_zero, List.set_cons_succ])
    refine wl_give rfl (g_move _ (.pointer (some ⟨p, 0, none⟩)) rfl ?_)
    (try simp only [Act.put, List.setIfInBounds_toArray, List.set_cons_zero, List.set_cons_succ])
    refine wl_give rfl (g_nil _ ⟨p, 0, none⟩ rfl ?_)
    (try simp only [Act.put, List.setIfInBounds_toArray, List.set_cons_zero, List.set_cons_succ])
    refine wl_give rfl (g_fa 44 _ (p) (0) (3) 3 rfl (fa44_3 _ _ _) ?_)
    (try simp only [Act.put, List.setIfInBounds_toArray, List.set_cons_zero, List.set_cons_succ])
    refine wl_give rfl (g_ld1 42 _ (p) 3 _ rfl (ld42 _ _ _ _ ((hM.get 2 rfl).cell 3 _ rfl)) ?_)
    (try simp only [Act.put, List.setIfInBounds_toArray, List.set_cons_zero, List.set_cons_succ])
    refine wl_give rfl (g_len _ 42 64 ((some ⟨g, 0, none⟩)) (L.length) (cap) (((L.length : Nat) : Int)) Try.underlying42 rfl rfl ?_)
    (try simp only [Act.put, List.setIfInBounds_toArray, List.set_cons_zero, List.set_cons_succ])
    refine wl_give rfl (g_ilss 3 _ _ .i64 (((j : Nat) : Int)) (((L.length : Nat) : Int)) true rfl rfl (decide_eq_true hlt) ?_)
    (try simp only [Act.put, List.setIfInBounds_toArray, List.set_cons_zero, List.set_cons_succ])
    refine wl_nil ?_
    refine hK7 _ _ ?_
    (try clear hK7 K7)
    refine wp_cond_true rfl ?_
    refine wp_skip ?_
    refine hK6 _ _ ?_
    (try clear hK6 K6)
    refine wp_seq_k (fun K8 hK8 => ?_)
    refine wp_block ?_
    refine wp_seq_k (fun K9 hK9 => ?_)
    refine wl_region ?_
    refine wl_give rfl (g_bs0 39 3 1 Try.underlying39 szof3 _ Try.zeroValue3 hM ?_)
    intro w10 h_
    replace hM : Ms w0 w10 (row 3 1 (.slice (some ⟨wr.heap.size, 0, none⟩) 0 0) (0) ([]) :: sl 64 2 g cap (L.length) (tcs L) :: row 3 1 (.slice o3 (O).length c3) ((O).length) ((O).map encZ) :: blk (p) ([.int .i64 (x), .int .i64 (y), .int .i64 (d), .slice (some ⟨g, 0, none⟩) (L.length) (cap)]) 44 :: R) := h_
    clear h_
    (try simp only [Act.put, List.setIfInBounds_toArray, List.set_cons_zero, List.set_cons_succ])
    refine wl_give rfl (g_assign _ (.slice (some ⟨wr.heap.size, 0, none⟩) (0) (0)) rfl ?_)
    (try simp only [Act.put, List.setIfInBounds_toArray, List.set_cons_zero, List.set_cons_succ])
    refine wl_nil ?_
    refine hK9 _ _ ?_
    (try clear hK9 K9)
    refine wp_seq_k (fun K11 hK11 => ?_)
    refine wl_region ?_
    refine wl_give rfl (g_assign _ (.bool false) rfl ?_)
    (try simp only [Act.put, List.setIfInBounds_toArray, List.set_cons_zero, List.set_cons_succ])
    refine wl_nil ?_
    refine hK11 _ _ ?_
    (try clear hK11 K11)
    refine wp_seq_k (fun K12 hK12 => ?_)
    refine wp_seq_k (fun K13 hK13 => ?_)
    refine wl_region ?_
    refine wl_give rfl (g_assign _ (.int .i64 (0)) rfl ?_)
    (try simp only [Act.put, List.setIfInBounds_toArray, List.set_cons_zero, List.set_cons_succ])
    refine wl_nil ?_
    refine hK13 _ _ ?_
    (try clear hK13 K13)
    refine wp_block ?_
    have h9 := ((((hM.up 1 rfl).up 3 rfl).up 3 rfl).up 3 rfl)
    refine wp_rounds (fun n st wr => ∃ (k : Nat) (dn : Bool) (l : List Int) (v5 : Value) (tt : Nat → Value), st = ⟨#[.pointer (some ⟨p, 0, none⟩), undef, .slice none (0) (0), .slice o3 ((O).length) (c3), .int .i64 (((j : Nat) : Int)), v5, .bool dn, .int .i64 ((k : Nat) : Int), tt 8, tt 9, tt 10, tt 11, tt 12, tt 13, tt 14, tt 15, tt 16, tt 17, tt 18, tt 19, tt 20, tt 21, tt 22, tt 23, tt 24, tt 25, tt 26, tt 27, tt 28, tt 29, tt 30, tt 31, tt 32, tt 33, tt 34, tt 35, tt 36, tt 37, tt 38, tt 39, tt 40, tt 41, tt 42, tt 43, tt 44, tt 45, tt 46, tt 47, tt 48, tt 49, tt 50, tt 51, tt 52, tt 53, tt 54, tt 55, tt 56, tt 57, tt 58, tt 59, tt 60, tt 61, tt 62, tt 63, tt 64, tt 65, tt 66, tt 67, tt 68, tt 69, tt 70, tt 71, tt 72, tt 73, tt 74, tt 75, tt 76, tt 77, tt 78, tt 79, tt 80, tt 81, tt 82, tt 83, tt 84, tt 85, tt 86, tt 87], []⟩ ∧ k + n = (O).length ∧ InsI t.1 (O.take k) dn l ∧ Ms w0 wr (row 3 1 v5 ((l).length) ((l).map encZ) :: row 3 1 (.slice o3 (O).length c3) ((O).length) ((O).map encZ) :: blk (p) ([.int .i64 (x), .int .i64 (y), .int .i64 (d), .slice (some ⟨g, 0, none⟩) (L.length) (cap)]) 44 :: sl 64 2 g cap (L.length) (tcs L) :: R)) _ ⟨0, false, [], .slice (some ⟨wr.heap.size, 0, none⟩) (0) (0), (tl [.pointer (some ⟨p, 0, none⟩), undef, .slice none (0) (0), .slice o3 ((O).length) (c3), .int .i64 (((j : Nat) : Int)), .slice (some ⟨wr.heap.size, 0, none⟩) (0) (0), .bool false, .int .i64 (0), u 8, .int .i64 (((j : Nat) : Int)), .pointer (some ⟨p, 0, none⟩), .pointer (some ⟨p, 0, none⟩), .pointer (some ⟨p, 3, none⟩), .slice (some ⟨g, 0, none⟩) (L.length) (cap), .int .i64 (((L.length : Nat) : Int)), .bool true, u 16, u 17, .slice (some ⟨wr.heap.size, 0, none⟩) (0) (0), u 19, u 20, u 21, u 22, u 23, u 24, u 25, u 26, u 27, u 28, u 29, u 30, u 31, u 32, u 33, u 34, u 35, u 36, u 37, u 38, u 39, u 40, u 41, u 42, u 43, u 44, u 45, u 46, u 47, u 48, u 49, u 50, u 51, u 52, u 53, u 54, u 55, u 56, u 57, u 58, u 59, u 60, u 61, u 62, u 63, u 64, u 65, u 66, u 67, u 68, u 69, u 70, u 71, u 72, u 73, u 74, u 75, u 76, u 77, u 78, u 79, u 80, u 81, u 82, u 83, u 84, u 85, u 86, u 87]), rfl, Nat.zero_add _, insI_nil, h9⟩ ?_
    clear h9 hM
    rintro n st wr ⟨k, dn, l, v5, tt, rfl, hk, hI, hM⟩
    have hIl := hI.1
    rw [List.length_take] at hIl
    by_cases hlk : ((k : Nat) : Int) < (((O).length : Nat) : Int)
    · skip
      have hkl : k < O.length := by omega
      obtain ⟨yy, hy⟩ : ∃ yy, O[k]? = some yy := ⟨_, List.getElem?_eq_getElem hkl⟩
      obtain ⟨g3, k3, hv, hM⟩ := row_sl (hM.up 1 rfl) (by omega)
      cases hv
      have hk1 : Shut (IntKind.i64.wrap (((k : Nat) : Int) + 1) = ((k + 1 : Nat) : Int)) := ⟨by rw [wrap_id _ (by omega) (by omega)]; omega⟩
      have htk2 : O.take (k + 1) = O.take k ++ [yy] := by rw [List.take_add_one, hy]; rfl
      replace hM : Ms w0 wr (sl 3 1 g3 c3 ((O).length) ((O).map encZ) :: row 3 1 v5 ((l).length) ((l).map encZ) :: blk (p) ([.int .i64 (x), .int .i64 (y), .int .i64 (d), .slice (some ⟨g, 0, none⟩) (L.length) (cap)]) 44 :: sl 64 2 g cap (L.length) (tcs L) :: R) := hM
      cases dn with
      | true =>
        refine wp_seq_k (fun K14 hK14 => ?_)
        refine wp_seq_k (fun K15 hK15 => ?_)
        refine wl_region ?_
        refine wl_give rfl (g_move _ (.int .i64 (((k : Nat) : Int))) rfl ?_)
        (try simp only [Act.put, List.setIfInBounds_toArray, List.set_cons_zero, List.set_cons_succ])
        refine wl_give rfl (g_move _ (.slice (some ⟨g3, 0, none⟩) ((O).length) (c3)) rfl ?_)
        (try simp only [Act.put, List.setIfInBounds_toArray, List.set_cons_zero, List.set_cons_succ])
        refine wl_give rfl (g_len _ 39 3 ((some ⟨g3, 0, none⟩)) ((O).length) (c3) ((((O).length : Nat) : Int)) Try.underlying39 rfl rfl ?_)
        (try simp only [Act.put, List.setIfInBounds_toArray, List.set_cons_zero, List.set_cons_succ])
        refine wl_give rfl (g_ilss 3 _ _ .i64 (((k : Nat) : Int)) ((((O).length : Nat) : Int)) true rfl rfl (decide_eq_true hlk) ?_)
        (try simp only [Act.put, List.setIfInBounds_toArray, List.set_cons_zero, List.set_cons_succ])
        refine wl_nil ?_
        refine hK15 _ _ ?_
        (try clear hK15 K15)
        refine wp_cond_true rfl ?_
        refine wp_skip ?_
        refine hK14 _ _ ?_
        (try clear hK14 K14)
        refine wp_seq_k (fun K16 hK16 => ?_)
        refine wp_block ?_
        refine wp_seq_k (fun K17 hK17 => ?_)
        refine wp_seq_k (fun K18 hK18 => ?_)
        refine wp_region_fixed (by kernel_rfl) (by kernel_rfl) [.bool true, .bool false, .bool false, undef, undef, undef, undef, undef, undef, undef, undef, undef, undef, undef, undef, undef, .bool false] (by rfl) (fun wx => Ms w0 wx (sl 3 1 g3 c3 ((O).length) ((O).map encZ) :: row 3 1 v5 ((l).length) ((l).map encZ) :: blk (p) ([.int .i64 (x), .int .i64 (y), .int .i64 (d), .slice (some ⟨g, 0, none⟩) (L.length) (cap)]) 44 :: sl 64 2 g cap (L.length) (tcs L) :: R)) hM.drew ?_ ?_
        · simp only [fullL, Act.put, List.setIfInBounds_toArray, List.set_cons_succ, List.set_cons_zero]
          refine ⟨?_, ?_, ?_, ?_, ?_, ?_, ?_, ?_, ?_, ?_, ?_, ?_, ?_, ?_, ?_, ?_, ?_, trivial⟩
          · exact fun wx hM => gw rfl (g_move _ (.bool true) rfl ⟨rfl, hM⟩)
          · exact fun wx hM => gw rfl (g_unot 4 _ true rfl ⟨rfl, hM⟩)
          · exact fun wx hM => gw rfl (g_move _ (.bool false) rfl ⟨rfl, hM⟩)
          · exact fun wx hM => gn rfl ⟨rfl, hM⟩
          · exact fun wx hM => gn rfl ⟨rfl, hM⟩
          · exact fun wx hM => gn rfl ⟨rfl, hM⟩
          · exact fun wx hM => gn rfl ⟨rfl, hM⟩
          · exact fun wx hM => gn rfl ⟨rfl, hM⟩
          · exact fun wx hM => gn rfl ⟨rfl, hM⟩
          · exact fun wx hM => gn rfl ⟨rfl, hM⟩
          · exact fun wx hM => gn rfl ⟨rfl, hM⟩
          · exact fun wx hM => gn rfl ⟨rfl, hM⟩
          · exact fun wx hM => gn rfl ⟨rfl, hM⟩
          · exact fun wx hM => gn rfl ⟨rfl, hM⟩
          · exact fun wx hM => gn rfl ⟨rfl, hM⟩
          · exact fun wx hM => gn rfl ⟨rfl, hM⟩
          · exact fun wx hM => gw rfl (g_pickf _ _ _ (.bool false) rfl rfl ⟨rfl, hM⟩)
        · simp only [fullL, Act.put, List.setIfInBounds_toArray, List.set_cons_succ, List.set_cons_zero]
          intro w19 hM
          refine hK18 _ _ ?_
          (try clear hK18 K18)
          refine wp_cond_false rfl ?_
          refine wp_skip ?_
          refine hK17 _ _ ?_
          (try clear hK17 K17)
          refine wl_region ?_
          refine wl_give rfl (g_move _ (v5) rfl ?_)
          (try simp only [Act.put, List.setIfInBounds_toArray, List.set_cons_zero, List.set_cons_succ])
          refine wl_give rfl (g_move _ (.slice (some ⟨g3, 0, none⟩) ((O).length) (c3)) rfl ?_)
          (try simp only [Act.put, List.setIfInBounds_toArray, List.set_cons_zero, List.set_cons_succ])
          refine wl_give rfl (g_move _ (.int .i64 (((k : Nat) : Int))) rfl ?_)
          (try simp only [Act.put, List.setIfInBounds_toArray, List.set_cons_zero, List.set_cons_succ])
          refine wl_give rfl (g_ix _ _ 39 3 1 Try.underlying39 szof3 g3 0 (O).length c3 k (0 + k * 1) _ rfl rfl rfl hkl rfl ?_)
          (try simp only [Act.put, List.setIfInBounds_toArray, List.set_cons_zero, List.set_cons_succ])
          refine wl_give rfl (g_ld1 3 _ (g3) (0 + k * 1) _ rfl (ld3 _ _ _ _ (by rw [Nat.mul_one, Nat.zero_add]; exact sl_cell hM k _ (enc_at hy))) ?_)
          (try simp only [Act.put, List.setIfInBounds_toArray, List.set_cons_zero, List.set_cons_succ])
          refine wl_give rfl (g_bs1 39 3 Try.underlying39 szof3 _ Try.zeroValue3 rfl _ (.int .i64 (yy)) rfl rfl hM ?_)
          intro w20 h_
          replace hM : Ms w0 w20 (blk (w19.heap.size) [.int .i64 (yy)] 3 :: sl 3 1 g3 c3 ((O).length) ((O).map encZ) :: row 3 1 v5 ((l).length) ((l).map encZ) :: blk (p) ([.int .i64 (x), .int .i64 (y), .int .i64 (d), .slice (some ⟨g, 0, none⟩) (L.length) (cap)]) 44 :: sl 64 2 g cap (L.length) (tcs L) :: R) := h_
          clear h_
          (try simp only [Act.put, List.setIfInBounds_toArray, List.set_cons_zero, List.set_cons_succ])
          refine wl_give rfl (g_apZ _ _ (v5) ((l).length) ((l).map encZ) (w19.heap.size) 1 ([.int .i64 (yy)]) 3 rfl rfl (show Ms w0 w20 (row 3 1 v5 ((l).length) ((l).map encZ) :: blk (w19.heap.size) [.int .i64 (yy)] 3 :: sl 3 1 g3 c3 ((O).length) ((O).map encZ) :: blk (p) ([.int .i64 (x), .int .i64 (y), .int .i64 (d), .slice (some ⟨g, 0, none⟩) (L.length) (cap)]) 44 :: sl 64 2 g cap (L.length) (tcs L) :: R) from (hM.up 2 rfl)) rfl (by simp [Value.oneCell']) (by omega) ?_)
          intro v22 w21 h_
          replace hM : Ms w0 w21 (row 3 1 v22 ((l).length + 1) ((l).map encZ ++ [.int .i64 (yy)]) :: blk (w19.heap.size) [.int .i64 (yy)] 3 :: sl 3 1 g3 c3 ((O).length) ((O).map encZ) :: blk (p) ([.int .i64 (x), .int .i64 (y), .int .i64 (d), .slice (some ⟨g, 0, none⟩) (L.length) (cap)]) 44 :: sl 64 2 g cap (L.length) (tcs L) :: R) := h_
          clear h_
          (try simp only [Act.put, List.setIfInBounds_toArray, List.set_cons_zero, List.set_cons_succ])
          refine wl_give rfl (g_assign _ (v22) rfl ?_)
          (try simp only [Act.put, List.setIfInBounds_toArray, List.set_cons_zero, List.set_cons_succ])
          refine wl_nil ?_
          refine hK16 _ _ ?_
          (try clear hK16 K16)
          refine wl_region ?_
          refine wl_give rfl (g_move _ (.int .i64 (((k : Nat) : Int))) rfl ?_)
          (try simp only [Act.put, List.setIfInBounds_toArray, List.set_cons_zero, List.set_cons_succ])
          refine wl_give rfl (g_ia 3 _ _ .i64 (((k : Nat) : Int)) (1) (((k + 1 : Nat) : Int)) rfl rfl (hk1.out) ?_)
          (try simp only [Act.put, List.setIfInBounds_toArray, List.set_cons_zero, List.set_cons_succ])
          refine wl_give rfl (g_assign _ (.int .i64 (((k + 1 : Nat) : Int))) rfl ?_)
          (try simp only [Act.put, List.setIfInBounds_toArray, List.set_cons_zero, List.set_cons_succ])
          refine wl_nil ?_
          (try simp only [Exit.then, Exit.inBlock, ↓reduceIte, Nat.reduceEqDiff])
          have h9 := sl_row (((((hM.up 1 rfl).up 4 rfl).up 4 rfl).up 3 rfl).up 4 rfl)
          replace h9 := h9.erase 4
          have h11 := h9.up 1 rfl
          refine ⟨n - 1, by omega, k + 1, _, l ++ [yy], v22, (tl [.pointer (some ⟨p, 0, none⟩), undef, .slice none (0) (0), .slice (some ⟨g3, 0, none⟩) ((O).length) (c3), .int .i64 (((j : Nat) : Int)), v22, .bool true, .int .i64 (((k + 1 : Nat) : Int)), tt 8, tt 9, tt 10, tt 11, tt 12, tt 13, tt 14, tt 15, tt 16, tt 17, tt 18, .int .i64 (((k : Nat) : Int)), .slice (some ⟨g3, 0, none⟩) ((O).length) (c3), .int .i64 ((((O).length : Nat) : Int)), .bool true, .int .i64 (((k : Nat) : Int)), .int .i64 (((k + 1 : Nat) : Int)), .bool true, .bool false, .bool false, undef, undef, undef, undef, undef, undef, undef, undef, undef, undef, undef, undef, undef, .bool false, tt 42, tt 43, tt 44, tt 45, tt 46, tt 47, tt 48, tt 49, tt 50, tt 51, tt 52, tt 53, tt 54, tt 55, tt 56, tt 57, tt 58, tt 59, tt 60, tt 61, tt 62, tt 63, tt 64, tt 65, v5, .slice (some ⟨g3, 0, none⟩) ((O).length) (c3), .int .i64 (((k : Nat) : Int)), .pointer (some ⟨g3, 0 + k * 1, none⟩), .int .i64 (yy), .slice (some ⟨w19.heap.size, 0, none⟩) (1) (1), v22, tt 73, tt 74, tt 75, tt 76, tt 77, tt 78, tt 79, tt 80, tt 81, tt 82, tt 83, tt 84, tt 85, tt 86, tt 87]), rfl, by omega, htk2 ▸ insI_done hI, ?_⟩
          rw [List.length_append, List.map_append]
          exact h11
      | false =>
        refine wp_seq_k (fun K23 hK23 => ?_)
        refine wp_seq_k (fun K24 hK24 => ?_)
        refine wl_region ?_
        refine wl_give rfl (g_move _ (.int .i64 (((k : Nat) : Int))) rfl ?_)
        (try simp only [Act.put, List.setIfInBounds_toArray, List.set_cons_zero, List.set_cons_succ])
        refine wl_give rfl (g_move _ (.slice (some ⟨g3, 0, none⟩) ((O).length) (c3)) rfl ?_)
        (try simp only [Act.put, List.setIfInBounds_toArray, List.set_cons_zero, List.set_cons_succ])
        refine wl_give rfl (g_len _ 39 3 ((some ⟨g3, 0, none⟩)) ((O).length) (c3) ((((O).length : Nat) : Int)) Try.underlying39 rfl rfl ?_)
        (try simp only [Act.put, List.setIfInBounds_toArray, List.set_cons_zero, List.set_cons_succ])
        refine wl_give rfl (g_ilss 3 _ _ .i64 (((k : Nat) : Int)) ((((O).length : Nat) : Int)) true rfl rfl (decide_eq_true hlk) ?_)
        (try simp only [Act.put, List.setIfInBounds_toArray, List.set_cons_zero, List.set_cons_succ])
        refine wl_nil ?_
        refine hK24 _ _ ?_
        (try clear hK24 K24)
        refine wp_cond_true rfl ?_
        refine wp_skip ?_
        refine hK23 _ _ ?_
        (try clear hK23 K23)
        refine wp_seq_k (fun K25 hK25 => ?_)
        refine wp_block ?_
        refine wp_seq_k (fun K26 hK26 => ?_)
        by_cases h1 : t.1 ≤ yy
        · by_cases h2 : t.1 < yy
          · skip
            refine wp_seq_k (fun K27 hK27 => ?_)
            refine wp_region_fixed (by kernel_rfl) (by kernel_rfl) [.bool false, .bool true, .bool true, .pointer (some ⟨p, 0, none⟩), .pointer (some ⟨p, 0, none⟩), .pointer (some ⟨p, 3, none⟩), .slice (some ⟨g, 0, none⟩) (L.length) (cap), .int .i64 (((j : Nat) : Int)), .pointer (some ⟨g, 0 + j * 2, none⟩), .pointer (some ⟨g, 0 + j * 2, none⟩), .int .i64 (t.1), .slice (some ⟨g3, 0, none⟩) ((O).length) (c3), .int .i64 (((k : Nat) : Int)), .pointer (some ⟨g3, 0 + k * 1, none⟩), .int .i64 (yy), .bool true, .bool true] (by rfl) (fun wx => Ms w0 wx (sl 3 1 g3 c3 ((O).length) ((O).map encZ) :: row 3 1 v5 ((l).length) ((l).map encZ) :: blk (p) ([.int .i64 (x), .int .i64 (y), .int .i64 (d), .slice (some ⟨g, 0, none⟩) (L.length) (cap)]) 44 :: sl 64 2 g cap (L.length) (tcs L) :: R)) hM.drew ?_ ?_
            · simp only [fullL, Act.put, List.setIfInBounds_toArray, List.set_cons_succ, List.set_cons_zero]
              refine ⟨?_, ?_, ?_, ?_, ?_, ?_, ?_, ?_, ?_, ?_, ?_, ?_, ?_, ?_, ?_, ?_, ?_, trivial⟩
              · exact fun wx hM => gw rfl (g_move _ (.bool false) rfl ⟨rfl, hM⟩)
              · exact fun wx hM => gw rfl (g_unot 4 _ false rfl ⟨rfl, hM⟩)
              · exact fun wx hM => gw rfl (g_move _ (.bool true) rfl ⟨rfl, hM⟩)
              · exact fun wx hM => gw rfl (g_move _ (.pointer (some ⟨p, 0, none⟩)) rfl ⟨rfl, hM⟩)
              · exact fun wx hM => gw rfl (g_nil _ ⟨p, 0, none⟩ rfl ⟨rfl, hM⟩)
              · exact fun wx hM => gw rfl (g_fa 44 _ (p) (0) (3) 3 rfl (fa44_3 _ _ _) ⟨rfl, hM⟩)
              · exact fun wx hM => gw rfl (g_ld1 42 _ (p) 3 _ rfl (ld42 _ _ _ _ ((hM.get 2 rfl).cell 3 _ rfl)) ⟨rfl, hM⟩)
              · exact fun wx hM => gw rfl (g_move _ (.int .i64 (((j : Nat) : Int))) rfl ⟨rfl, hM⟩)
              · exact fun wx hM => gw rfl (g_ix _ _ 42 64 2 Try.underlying42 szof64 g 0 L.length cap j (0 + j * 2) _ rfl rfl rfl hjl rfl ⟨rfl, hM⟩)
              · exact fun wx hM => gw rfl (g_fa 64 _ g (0 + j * 2) (0 + j * 2) 0 rfl (fa64_0 _ _ _) ⟨rfl, hM⟩)
              · exact fun wx hM => gw rfl (g_ld1 3 _ (g) (0 + j * 2) _ rfl (ld3 _ _ _ _ (by rw [Nat.zero_add]; exact sl_cell (show Ms w0 _ (sl 64 2 g cap (L.length) (tcs L) :: sl 3 1 g3 c3 ((O).length) ((O).map encZ) :: row 3 1 v5 ((l).length) ((l).map encZ) :: blk (p) ([.int .i64 (x), .int .i64 (y), .int .i64 (d), .slice (some ⟨g, 0, none⟩) (L.length) (cap)]) 44 :: R) from (hM.up 3 rfl)) _ _ (tcs_at ht).1)) ⟨rfl, hM⟩)
              · exact fun wx hM => gw rfl (g_move _ (.slice (some ⟨g3, 0, none⟩) ((O).length) (c3)) rfl ⟨rfl, hM⟩)
              · exact fun wx hM => gw rfl (g_move _ (.int .i64 (((k : Nat) : Int))) rfl ⟨rfl, hM⟩)
              · exact fun wx hM => gw rfl (g_ix _ _ 39 3 1 Try.underlying39 szof3 g3 0 (O).length c3 k (0 + k * 1) _ rfl rfl rfl hkl rfl ⟨rfl, hM⟩)
              · exact fun wx hM => gw rfl (g_ld1 3 _ (g3) (0 + k * 1) _ rfl (ld3 _ _ _ _ (by rw [Nat.mul_one, Nat.zero_add]; exact sl_cell hM k _ (enc_at hy))) ⟨rfl, hM⟩)
              · exact fun wx hM => gw rfl (g_ileq 3 _ _ .i64 (t.1) (yy) true rfl rfl (decide_eq_true h1) ⟨rfl, hM⟩)
              · exact fun wx hM => gw rfl (g_pickt _ _ _ (.bool true) rfl rfl ⟨rfl, hM⟩)
            · simp only [fullL, Act.put, List.setIfInBounds_toArray, List.set_cons_succ, List.set_cons_zero]
              intro w28 hM
              refine hK27 _ _ ?_
              (try clear hK27 K27)
              refine wp_cond_true rfl ?_
              refine wp_seq_k (fun K29 hK29 => ?_)
              refine wl_region ?_
              refine wl_give rfl (g_assign _ (.bool true) rfl ?_)
              (try simp only [Act.put, List.setIfInBounds_toArray, List.set_cons_zero, List.set_cons_succ])
              refine wl_nil ?_
              refine hK29 _ _ ?_
              (try clear hK29 K29)
              refine wp_seq_k (fun K30 hK30 => ?_)
              refine wp_region_fixed (by kernel_rfl) (by kernel_rfl) [.pointer (some ⟨p, 0, none⟩), .pointer (some ⟨p, 0, none⟩), .pointer (some ⟨p, 3, none⟩), .slice (some ⟨g, 0, none⟩) (L.length) (cap), .int .i64 (((j : Nat) : Int)), .pointer (some ⟨g, 0 + j * 2, none⟩), .pointer (some ⟨g, 0 + j * 2, none⟩), .int .i64 (t.1), .slice (some ⟨g3, 0, none⟩) ((O).length) (c3), .int .i64 (((k : Nat) : Int)), .pointer (some ⟨g3, 0 + k * 1, none⟩), .int .i64 (yy), .bool true] (by rfl) (fun wx => Ms w0 wx (sl 3 1 g3 c3 ((O).length) ((O).map encZ) :: row 3 1 v5 ((l).length) ((l).map encZ) :: blk (p) ([.int .i64 (x), .int .i64 (y), .int .i64 (d), .slice (some ⟨g, 0, none⟩) (L.length) (cap)]) 44 :: sl 64 2 g cap (L.length) (tcs L) :: R)) hM.drew ?_ ?_
              · simp only [fullL, Act.put, List.setIfInBounds_toArray, List.set_cons_succ, List.set_cons_zero]
                refine ⟨?_, ?_, ?_, ?_, ?_, ?_, ?_, ?_, ?_, ?_, ?_, ?_, ?_, trivial⟩
                · exact fun wx hM => gw rfl (g_move _ (.pointer (some ⟨p, 0, none⟩)) rfl ⟨rfl, hM⟩)
                · exact fun wx hM => gw rfl (g_nil _ ⟨p, 0, none⟩ rfl ⟨rfl, hM⟩)
                · exact fun wx hM => gw rfl (g_fa 44 _ (p) (0) (3) 3 rfl (fa44_3 _ _ _) ⟨rfl, hM⟩)
                · exact fun wx hM => gw rfl (g_ld1 42 _ (p) 3 _ rfl (ld42 _ _ _ _ ((hM.get 2 rfl).cell 3 _ rfl)) ⟨rfl, hM⟩)
                · exact fun wx hM => gw rfl (g_move _ (.int .i64 (((j : Nat) : Int))) rfl ⟨rfl, hM⟩)
                · exact fun wx hM => gw rfl (g_ix _ _ 42 64 2 Try.underlying42 szof64 g 0 L.length cap j (0 + j * 2) _ rfl rfl rfl hjl rfl ⟨rfl, hM⟩)
                · exact fun wx hM => gw rfl (g_fa 64 _ g (0 + j * 2) (0 + j * 2) 0 rfl (fa64_0 _ _ _) ⟨rfl, hM⟩)
                · exact fun wx hM => gw rfl (g_ld1 3 _ (g) (0 + j * 2) _ rfl (ld3 _ _ _ _ (by rw [Nat.zero_add]; exact sl_cell (show Ms w0 _ (sl 64 2 g cap (L.length) (tcs L) :: sl 3 1 g3 c3 ((O).length) ((O).map encZ) :: row 3 1 v5 ((l).length) ((l).map encZ) :: blk (p) ([.int .i64 (x), .int .i64 (y), .int .i64 (d), .slice (some ⟨g, 0, none⟩) (L.length) (cap)]) 44 :: R) from (hM.up 3 rfl)) _ _ (tcs_at ht).1)) ⟨rfl, hM⟩)
                · exact fun wx hM => gw rfl (g_move _ (.slice (some ⟨g3, 0, none⟩) ((O).length) (c3)) rfl ⟨rfl, hM⟩)
                · exact fun wx hM => gw rfl (g_move _ (.int .i64 (((k : Nat) : Int))) rfl ⟨rfl, hM⟩)
                · exact fun wx hM => gw rfl (g_ix _ _ 39 3 1 Try.underlying39 szof3 g3 0 (O).length c3 k (0 + k * 1) _ rfl rfl rfl hkl rfl ⟨rfl, hM⟩)
                · exact fun wx hM => gw rfl (g_ld1 3 _ (g3) (0 + k * 1) _ rfl (ld3 _ _ _ _ (by rw [Nat.mul_one, Nat.zero_add]; exact sl_cell hM k _ (enc_at hy))) ⟨rfl, hM⟩)
                · exact fun wx hM => gw rfl (g_ilss 3 _ _ .i64 (t.1) (yy) true rfl rfl (decide_eq_true h2) ⟨rfl, hM⟩)
              · simp only [fullL, Act.put, List.setIfInBounds_toArray, List.set_cons_succ, List.set_cons_zero]
                intro w31 hM
                refine hK30 _ _ ?_
                (try clear hK30 K30)
                refine wp_cond_true rfl ?_
                refine wl_region ?_
                refine wl_give rfl (g_move _ (v5) rfl ?_)
                (try simp only [Act.put, List.setIfInBounds_toArray, List.set_cons_zero, List.set_cons_succ])
                refine wl_give rfl (g_move _ (.pointer (some ⟨p, 0, none⟩)) rfl ?_)
                (try simp only [Act.put, List.setIfInBounds_toArray, List.set_cons_zero, List.set_cons_succ])
                refine wl_give rfl (g_nil _ ⟨p, 0, none⟩ rfl ?_)
                (try simp only [Act.put, List.setIfInBounds_toArray, List.set_cons_zero, List.set_cons_succ])
                refine wl_give rfl (g_fa 44 _ (p) (0) (3) 3 rfl (fa44_3 _ _ _) ?_)
                (try simp only [Act.put, List.setIfInBounds_toArray, List.set_cons_zero, List.set_cons_succ])
                refine wl_give rfl (g_ld1 42 _ (p) 3 _ rfl (ld42 _ _ _ _ ((hM.get 2 rfl).cell 3 _ rfl)) ?_)
                (try simp only [Act.put, List.setIfInBounds_toArray, List.set_cons_zero, List.set_cons_succ])
                refine wl_give rfl (g_move _ (.int .i64 (((j : Nat) : Int))) rfl ?_)
                (try simp only [Act.put, List.setIfInBounds_toArray, List.set_cons_zero, List.set_cons_succ])
                refine wl_give rfl (g_ix _ _ 42 64 2 Try.underlying42 szof64 g 0 L.length cap j (0 + j * 2) _ rfl rfl rfl hjl rfl ?_)
                (try simp only [Act.put, List.setIfInBounds_toArray, List.set_cons_zero, List.set_cons_succ])
                refine wl_give rfl (g_fa 64 _ g (0 + j * 2) (0 + j * 2) 0 rfl (fa64_0 _ _ _) ?_)
                (try simp only [Act.put, List.setIfInBounds_toArray, List.set_cons_zero, List.set_cons_succ])
                refine wl_give rfl (g_ld1 3 _ (g) (0 + j * 2) _ rfl (ld3 _ _ _ _ (by rw [Nat.zero_add]; exact sl_cell (show Ms w0 _ (sl 64 2 g cap (L.length) (tcs L) :: sl 3 1 g3 c3 ((O).length) ((O).map encZ) :: row 3 1 v5 ((l).length) ((l).map encZ) :: blk (p) ([.int .i64 (x), .int .i64 (y), .int .i64 (d), .slice (some ⟨g, 0, none⟩) (L.length) (cap)]) 44 :: R) from (hM.up 3 rfl)) _ _ (tcs_at ht).1)) ?_)
                (try simp only [Act.put, List.setIfInBounds_toArray, List.set_cons_zero, List.set_cons_succ])
                refine wl_give rfl (g_bs1 39 3 Try.underlying39 szof3 _ Try.zeroValue3 rfl _ (.int .i64 (t.1)) rfl rfl hM ?_)
                intro w32 h_
                replace hM : Ms w0 w32 (blk (w31.heap.size) [.int .i64 (t.1)] 3 :: sl 3 1 g3 c3 ((O).length) ((O).map encZ) :: row 3 1 v5 ((l).length) ((l).map encZ) :: blk (p) ([.int .i64 (x), .int .i64 (y), .int .i64 (d), .slice (some ⟨g, 0, none⟩) (L.length) (cap)]) 44 :: sl 64 2 g cap (L.length) (tcs L) :: R) := h_
                clear h_
                (try simp only [Act.put, List.setIfInBounds_toArray, List.set_cons_zero, List.set_cons_succ])
                refine wl_give rfl (g_apZ _ _ (v5) ((l).length) ((l).map encZ) (w31.heap.size) 1 ([.int .i64 (t.1)]) 3 rfl rfl (show Ms w0 w32 (row 3 1 v5 ((l).length) ((l).map encZ) :: blk (w31.heap.size) [.int .i64 (t.1)] 3 :: sl 3 1 g3 c3 ((O).length) ((O).map encZ) :: blk (p) ([.int .i64 (x), .int .i64 (y), .int .i64 (d), .slice (some ⟨g, 0, none⟩) (L.length) (cap)]) 44 :: sl 64 2 g cap (L.length) (tcs L) :: R) from (hM.up 2 rfl)) rfl (by simp [Value.oneCell']) (by omega) ?_)
                intro v34 w33 h_
                replace hM : Ms w0 w33 (row 3 1 v34 ((l).length + 1) ((l).map encZ ++ [.int .i64 (t.1)]) :: blk (w31.heap.size) [.int .i64 (t.1)] 3 :: sl 3 1 g3 c3 ((O).length) ((O).map encZ) :: blk (p) ([.int .i64 (x), .int .i64 (y), .int .i64 (d), .slice (some ⟨g, 0, none⟩) (L.length) (cap)]) 44 :: sl 64 2 g cap (L.length) (tcs L) :: R) := h_
                clear h_
                (try simp only [Act.put, List.setIfInBounds_toArray, List.set_cons_zero, List.set_cons_succ])
                refine wl_give rfl (g_assign _ (v34) rfl ?_)
                (try simp only [Act.put, List.setIfInBounds_toArray, List.set_cons_zero, List.set_cons_succ])
                refine wl_nil ?_
                refine hK26 _ _ ?_
                (try clear hK26 K26)
                refine wl_region ?_
                refine wl_give rfl (g_move _ (v34) rfl ?_)
                (try simp only [Act.put, List.setIfInBounds_toArray, List.set_cons_zero, List.set_cons_succ])
                refine wl_give rfl (g_move _ (.slice (some ⟨g3, 0, none⟩) ((O).length) (c3)) rfl ?_)
                (try simp only [Act.put, List.setIfInBounds_toArray, List.set_cons_zero, List.set_cons_succ])
                refine wl_give rfl (g_move _ (.int .i64 (((k : Nat) : Int))) rfl ?_)
                (try simp only [Act.put, List.setIfInBounds_toArray, List.set_cons_zero, List.set_cons_succ])
                refine wl_give rfl (g_ix _ _ 39 3 1 Try.underlying39 szof3 g3 0 (O).length c3 k (0 + k * 1) _ rfl rfl rfl hkl rfl ?_)
                (try simp only [Act.put, List.setIfInBounds_toArray, List.set_cons_zero, List.set_cons_succ])
                refine wl_give rfl (g_ld1 3 _ (g3) (0 + k * 1) _ rfl (ld3 _ _ _ _ (by rw [Nat.mul_one, Nat.zero_add]; exact sl_cell (show Ms w0 _ (sl 3 1 g3 c3 ((O).length) ((O).map encZ) :: row 3 1 v34 ((l).length + 1) ((l).map encZ ++ [.int .i64 (t.1)]) :: blk (w31.heap.size) [.int .i64 (t.1)] 3 :: blk (p) ([.int .i64 (x), .int .i64 (y), .int .i64 (d), .slice (some ⟨g, 0, none⟩) (L.length) (cap)]) 44 :: sl 64 2 g cap (L.length) (tcs L) :: R) from (hM.up 2 rfl)) k _ (enc_at hy))) ?_)
                (try simp only [Act.put, List.setIfInBounds_toArray, List.set_cons_zero, List.set_cons_succ])
                refine wl_give rfl (g_bs1 39 3 Try.underlying39 szof3 _ Try.zeroValue3 rfl _ (.int .i64 (yy)) rfl rfl hM ?_)
                intro w35 h_
                replace hM : Ms w0 w35 (blk (w33.heap.size) [.int .i64 (yy)] 3 :: row 3 1 v34 ((l).length + 1) ((l).map encZ ++ [.int .i64 (t.1)]) :: blk (w31.heap.size) [.int .i64 (t.1)] 3 :: sl 3 1 g3 c3 ((O).length) ((O).map encZ) :: blk (p) ([.int .i64 (x), .int .i64 (y), .int .i64 (d), .slice (some ⟨g, 0, none⟩) (L.length) (cap)]) 44 :: sl 64 2 g cap (L.length) (tcs L) :: R) := h_
                clear h_
                (try simp only [Act.put, List.setIfInBounds_toArray, List.set_cons_zero, List.set_cons_succ])
                refine wl_give rfl (g_apZ _ _ (v34) ((l).length + 1) ((l).map encZ ++ [.int .i64 (t.1)]) (w33.heap.size) 1 ([.int .i64 (yy)]) 3 rfl rfl (show Ms w0 w35 (row 3 1 v34 ((l).length + 1) ((l).map encZ ++ [.int .i64 (t.1)]) :: blk (w33.heap.size) [.int .i64 (yy)] 3 :: blk (w31.heap.size) [.int .i64 (t.1)] 3 :: sl 3 1 g3 c3 ((O).length) ((O).map encZ) :: blk (p) ([.int .i64 (x), .int .i64 (y), .int .i64 (d), .slice (some ⟨g, 0, none⟩) (L.length) (cap)]) 44 :: sl 64 2 g cap (L.length) (tcs L) :: R) from (hM.up 1 rfl)) rfl (by simp [Value.oneCell']) (by omega) ?_)
                intro v37 w36 h_
                replace hM : Ms w0 w36 (row 3 1 v37 ((l).length + 1 + 1) ((l).map encZ ++ [.int .i64 (t.1)] ++ [.int .i64 (yy)]) :: blk (w33.heap.size) [.int .i64 (yy)] 3 :: blk (w31.heap.size) [.int .i64 (t.1)] 3 :: sl 3 1 g3 c3 ((O).length) ((O).map encZ) :: blk (p) ([.int .i64 (x), .int .i64 (y), .int .i64 (d), .slice (some ⟨g, 0, none⟩) (L.length) (cap)]) 44 :: sl 64 2 g cap (L.length) (tcs L) :: R) := h_
                clear h_
                (try simp only [Act.put, List.setIfInBounds_toArray, List.set_cons_zero, List.set_cons_succ])
                refine wl_give rfl (g_assign _ (v37) rfl ?_)
                (try simp only [Act.put, List.setIfInBounds_toArray, List.set_cons_zero, List.set_cons_succ])
                refine wl_nil ?_
                refine hK25 _ _ ?_
                (try clear hK25 K25)
                refine wl_region ?_
                refine wl_give rfl (g_move _ (.int .i64 (((k : Nat) : Int))) rfl ?_)
                (try simp only [Act.put, List.setIfInBounds_toArray, List.set_cons_zero, List.set_cons_succ])
                refine wl_give rfl (g_ia 3 _ _ .i64 (((k : Nat) : Int)) (1) (((k + 1 : Nat) : Int)) rfl rfl (hk1.out) ?_)
                (try simp only [Act.put, List.setIfInBounds_toArray, List.set_cons_zero, List.set_cons_succ])
                refine wl_give rfl (g_assign _ (.int .i64 (((k + 1 : Nat) : Int))) rfl ?_)
                (try simp only [Act.put, List.setIfInBounds_toArray, List.set_cons_zero, List.set_cons_succ])
                refine wl_nil ?_
                (try simp only [Exit.then, Exit.inBlock, ↓reduceIte, Nat.reduceEqDiff])
                have h9 := sl_row ((((((hM.up 2 rfl).up 2 rfl).up 5 rfl).up 5 rfl).up 4 rfl).up 5 rfl)
                replace h9 := h9.erase 4
                replace h9 := h9.erase 4
                have h11 := h9.up 1 rfl
                refine ⟨n - 1, by omega, k + 1, _, l ++ [t.1] ++ [yy], v37, (tl [.pointer (some ⟨p, 0, none⟩), undef, .slice none (0) (0), .slice (some ⟨g3, 0, none⟩) ((O).length) (c3), .int .i64 (((j : Nat) : Int)), v37, .bool true, .int .i64 (((k + 1 : Nat) : Int)), tt 8, tt 9, tt 10, tt 11, tt 12, tt 13, tt 14, tt 15, tt 16, tt 17, tt 18, .int .i64 (((k : Nat) : Int)), .slice (some ⟨g3, 0, none⟩) ((O).length) (c3), .int .i64 ((((O).length : Nat) : Int)), .bool true, .int .i64 (((k : Nat) : Int)), .int .i64 (((k + 1 : Nat) : Int)), .bool false, .bool true, .bool true, .pointer (some ⟨p, 0, none⟩), .pointer (some ⟨p, 0, none⟩), .pointer (some ⟨p, 3, none⟩), .slice (some ⟨g, 0, none⟩) (L.length) (cap), .int .i64 (((j : Nat) : Int)), .pointer (some ⟨g, 0 + j * 2, none⟩), .pointer (some ⟨g, 0 + j * 2, none⟩), .int .i64 (t.1), .slice (some ⟨g3, 0, none⟩) ((O).length) (c3), .int .i64 (((k : Nat) : Int)), .pointer (some ⟨g3, 0 + k * 1, none⟩), .int .i64 (yy), .bool true, .bool true, .pointer (some ⟨p, 0, none⟩), .pointer (some ⟨p, 0, none⟩), .pointer (some ⟨p, 3, none⟩), .slice (some ⟨g, 0, none⟩) (L.length) (cap), .int .i64 (((j : Nat) : Int)), .pointer (some ⟨g, 0 + j * 2, none⟩), .pointer (some ⟨g, 0 + j * 2, none⟩), .int .i64 (t.1), .slice (some ⟨g3, 0, none⟩) ((O).length) (c3), .int .i64 (((k : Nat) : Int)), .pointer (some ⟨g3, 0 + k * 1, none⟩), .int .i64 (yy), .bool true, v5, .pointer (some ⟨p, 0, none⟩), .pointer (some ⟨p, 0, none⟩), .pointer (some ⟨p, 3, none⟩), .slice (some ⟨g, 0, none⟩) (L.length) (cap), .int .i64 (((j : Nat) : Int)), .pointer (some ⟨g, 0 + j * 2, none⟩), .pointer (some ⟨g, 0 + j * 2, none⟩), .int .i64 (t.1), .slice (some ⟨w31.heap.size, 0, none⟩) (1) (1), v34, v34, .slice (some ⟨g3, 0, none⟩) ((O).length) (c3), .int .i64 (((k : Nat) : Int)), .pointer (some ⟨g3, 0 + k * 1, none⟩), .int .i64 (yy), .slice (some ⟨w33.heap.size, 0, none⟩) (1) (1), v37, tt 73, tt 74, tt 75, tt 76, tt 77, tt 78, tt 79, tt 80, tt 81, tt 82, tt 83, tt 84, tt 85, tt 86, tt 87]), rfl, by omega, htk2 ▸ insI_lt hI h2, ?_⟩
                rw [List.length_append, List.length_append, List.map_append, List.map_append]
                exact h11
          · skip
            refine wp_seq_k (fun K38 hK38 => ?_)
            refine wp_region_fixed (by kernel_rfl) (by kernel_rfl) [.bool false, .bool true, .bool true, .pointer (some ⟨p, 0, none⟩), .pointer (some ⟨p, 0, none⟩), .pointer (some ⟨p, 3, none⟩), .slice (some ⟨g, 0, none⟩) (L.length) (cap), .int .i64 (((j : Nat) : Int)), .pointer (some ⟨g, 0 + j * 2, none⟩), .pointer (some ⟨g, 0 + j * 2, none⟩), .int .i64 (t.1), .slice (some ⟨g3, 0, none⟩) ((O).length) (c3), .int .i64 (((k : Nat) : Int)), .pointer (some ⟨g3, 0 + k * 1, none⟩), .int .i64 (yy), .bool true, .bool true] (by rfl) (fun wx => Ms w0 wx (sl 3 1 g3 c3 ((O).length) ((O).map encZ) :: row 3 1 v5 ((l).length) ((l).map encZ) :: blk (p) ([.int .i64 (x), .int .i64 (y), .int .i64 (d), .slice (some ⟨g, 0, none⟩) (L.length) (cap)]) 44 :: sl 64 2 g cap (L.length) (tcs L) :: R)) hM.drew ?_ ?_
            · simp only [fullL, Act.put, List.setIfInBounds_toArray, List.set_cons_succ, List.set_cons_zero]
              refine ⟨?_, ?_, ?_, ?_, ?_, ?_, ?_, ?_, ?_, ?_, ?_, ?_, ?_, ?_, ?_, ?_, ?_, trivial⟩
              · exact fun wx hM => gw rfl (g_move _ (.bool false) rfl ⟨rfl, hM⟩)
              · exact fun wx hM => gw rfl (g_unot 4 _ false rfl ⟨rfl, hM⟩)
              · exact fun wx hM => gw rfl (g_move _ (.bool true) rfl ⟨rfl, hM⟩)
              · exact fun wx hM => gw rfl (g_move _ (.pointer (some ⟨p, 0, none⟩)) rfl ⟨rfl, hM⟩)
              · exact fun wx hM => gw rfl (g_nil _ ⟨p, 0, none⟩ rfl ⟨rfl, hM⟩)
              · exact fun wx hM => gw rfl (g_fa 44 _ (p) (0) (3) 3 rfl (fa44_3 _ _ _) ⟨rfl, hM⟩)
              · exact fun wx hM => gw rfl (g_ld1 42 _ (p) 3 _ rfl (ld42 _ _ _ _ ((hM.get 2 rfl).cell 3 _ rfl)) ⟨rfl, hM⟩)
              · exact fun wx hM => gw rfl (g_move _ (.int .i64 (((j : Nat) : Int))) rfl ⟨rfl, hM⟩)
              · exact fun wx hM => gw rfl (g_ix _ _ 42 64 2 Try.underlying42 szof64 g 0 L.length cap j (0 + j * 2) _ rfl rfl rfl hjl rfl ⟨rfl, hM⟩)
              · exact fun wx hM => gw rfl (g_fa 64 _ g (0 + j * 2) (0 + j * 2) 0 rfl (fa64_0 _ _ _) ⟨rfl, hM⟩)
              · exact fun wx hM => gw rfl (g_ld1 3 _ (g) (0 + j * 2) _ rfl (ld3 _ _ _ _ (by rw [Nat.zero_add]; exact sl_cell (show Ms w0 _ (sl 64 2 g cap (L.length) (tcs L) :: sl 3 1 g3 c3 ((O).length) ((O).map encZ) :: row 3 1 v5 ((l).length) ((l).map encZ) :: blk (p) ([.int .i64 (x), .int .i64 (y), .int .i64 (d), .slice (some ⟨g, 0, none⟩) (L.length) (cap)]) 44 :: R) from (hM.up 3 rfl)) _ _ (tcs_at ht).1)) ⟨rfl, hM⟩)
              · exact fun wx hM => gw rfl (g_move _ (.slice (some ⟨g3, 0, none⟩) ((O).length) (c3)) rfl ⟨rfl, hM⟩)
              · exact fun wx hM => gw rfl (g_move _ (.int .i64 (((k : Nat) : Int))) rfl ⟨rfl, hM⟩)
              · exact fun wx hM => gw rfl (g_ix _ _ 39 3 1 Try.underlying39 szof3 g3 0 (O).length c3 k (0 + k * 1) _ rfl rfl rfl hkl rfl ⟨rfl, hM⟩)
              · exact fun wx hM => gw rfl (g_ld1 3 _ (g3) (0 + k * 1) _ rfl (ld3 _ _ _ _ (by rw [Nat.mul_one, Nat.zero_add]; exact sl_cell hM k _ (enc_at hy))) ⟨rfl, hM⟩)
              · exact fun wx hM => gw rfl (g_ileq 3 _ _ .i64 (t.1) (yy) true rfl rfl (decide_eq_true h1) ⟨rfl, hM⟩)
              · exact fun wx hM => gw rfl (g_pickt _ _ _ (.bool true) rfl rfl ⟨rfl, hM⟩)
            · simp only [fullL, Act.put, List.setIfInBounds_toArray, List.set_cons_succ, List.set_cons_zero]
              intro w39 hM
              refine hK38 _ _ ?_
              (try clear hK38 K38)
              refine wp_cond_true rfl ?_
              refine wp_seq_k (fun K40 hK40 => ?_)
              refine wl_region ?_
              refine wl_give rfl (g_assign _ (.bool true) rfl ?_)
              (try simp only [Act.put, List.setIfInBounds_toArray, List.set_cons_zero, List.set_cons_succ])
              refine wl_nil ?_
              refine hK40 _ _ ?_
              (try clear hK40 K40)
              refine wp_seq_k (fun K41 hK41 => ?_)
              refine wp_region_fixed (by kernel_rfl) (by kernel_rfl) [.pointer (some ⟨p, 0, none⟩), .pointer (some ⟨p, 0, none⟩), .pointer (some ⟨p, 3, none⟩), .slice (some ⟨g, 0, none⟩) (L.length) (cap), .int .i64 (((j : Nat) : Int)), .pointer (some ⟨g, 0 + j * 2, none⟩), .pointer (some ⟨g, 0 + j * 2, none⟩), .int .i64 (t.1), .slice (some ⟨g3, 0, none⟩) ((O).length) (c3), .int .i64 (((k : Nat) : Int)), .pointer (some ⟨g3, 0 + k * 1, none⟩), .int .i64 (yy), .bool false] (by rfl) (fun wx => Ms w0 wx (sl 3 1 g3 c3 ((O).length) ((O).map encZ) :: row 3 1 v5 ((l).length) ((l).map encZ) :: blk (p) ([.int .i64 (x), .int .i64 (y), .int .i64 (d), .slice (some ⟨g, 0, none⟩) (L.length) (cap)]) 44 :: sl 64 2 g cap (L.length) (tcs L) :: R)) hM.drew ?_ ?_
              · simp only [fullL, Act.put, List.setIfInBounds_toArray, List.set_cons_succ, List.set_cons_zero]
                refine ⟨?_, ?_, ?_, ?_, ?_, ?_, ?_, ?_, ?_, ?_, ?_, ?_, ?_, trivial⟩
                · exact fun wx hM => gw rfl (g_move _ (.pointer (some ⟨p, 0, none⟩)) rfl ⟨rfl, hM⟩)
                · exact fun wx hM => gw rfl (g_nil _ ⟨p, 0, none⟩ rfl ⟨rfl, hM⟩)
                · exact fun wx hM => gw rfl (g_fa 44 _ (p) (0) (3) 3 rfl (fa44_3 _ _ _) ⟨rfl, hM⟩)
                · exact fun wx hM => gw rfl (g_ld1 42 _ (p) 3 _ rfl (ld42 _ _ _ _ ((hM.get 2 rfl).cell 3 _ rfl)) ⟨rfl, hM⟩)
                · exact fun wx hM => gw rfl (g_move _ (.int .i64 (((j : Nat) : Int))) rfl ⟨rfl, hM⟩)
                · exact fun wx hM => gw rfl (g_ix _ _ 42 64 2 Try.underlying42 szof64 g 0 L.length cap j (0 + j * 2) _ rfl rfl rfl hjl rfl ⟨rfl, hM⟩)
                · exact fun wx hM => gw rfl (g_fa 64 _ g (0 + j * 2) (0 + j * 2) 0 rfl (fa64_0 _ _ _) ⟨rfl, hM⟩)
                · exact fun wx hM => gw rfl (g_ld1 3 _ (g) (0 + j * 2) _ rfl (ld3 _ _ _ _ (by rw [Nat.zero_add]; exact sl_cell (show Ms w0 _ (sl 64 2 g cap (L.length) (tcs L) :: sl 3 1 g3 c3 ((O).length) ((O).map encZ) :: row 3 1 v5 ((l).length) ((l).map encZ) :: blk (p) ([.int .i64 (x), .int .i64 (y), .int .i64 (d), .slice (some ⟨g, 0, none⟩) (L.length) (cap)]) 44 :: R) from (hM.up 3 rfl)) _ _ (tcs_at ht).1)) ⟨rfl, hM⟩)
                · exact fun wx hM => gw rfl (g_move _ (.slice (some ⟨g3, 0, none⟩) ((O).length) (c3)) rfl ⟨rfl, hM⟩)
                · exact fun wx hM => gw rfl (g_move _ (.int .i64 (((k : Nat) : Int))) rfl ⟨rfl, hM⟩)
                · exact fun wx hM => gw rfl (g_ix _ _ 39 3 1 Try.underlying39 szof3 g3 0 (O).length c3 k (0 + k * 1) _ rfl rfl rfl hkl rfl ⟨rfl, hM⟩)
                · exact fun wx hM => gw rfl (g_ld1 3 _ (g3) (0 + k * 1) _ rfl (ld3 _ _ _ _ (by rw [Nat.mul_one, Nat.zero_add]; exact sl_cell hM k _ (enc_at hy))) ⟨rfl, hM⟩)
                · exact fun wx hM => gw rfl (g_ilss 3 _ _ .i64 (t.1) (yy) false rfl rfl (decide_eq_false h2) ⟨rfl, hM⟩)
              · simp only [fullL, Act.put, List.setIfInBounds_toArray, List.set_cons_succ, List.set_cons_zero]
                intro w42 hM
                refine hK41 _ _ ?_
                (try clear hK41 K41)
                refine wp_cond_false rfl ?_
                refine wp_skip ?_
                refine hK26 _ _ ?_
                (try clear hK26 K26)
                refine wl_region ?_
                refine wl_give rfl (g_move _ (v5) rfl ?_)
                (try simp only [Act.put, List.setIfInBounds_toArray, List.set_cons_zero, List.set_cons_succ])
                refine wl_give rfl (g_move _ (.slice (some ⟨g3, 0, none⟩) ((O).length) (c3)) rfl ?_)
                (try simp only [Act.put, List.setIfInBounds_toArray, List.set_cons_zero, List.set_cons_succ])
                refine wl_give rfl (g_move _ (.int .i64 (((k : Nat) : Int))) rfl ?_)
                (try simp only [Act.put, List.setIfInBounds_toArray, List.set_cons_zero, List.set_cons_succ])
                refine wl_give rfl (g_ix _ _ 39 3 1 Try.underlying39 szof3 g3 0 (O).length c3 k (0 + k * 1) _ rfl rfl rfl hkl rfl ?_)
                (try simp only [Act.put, List.setIfInBounds_toArray, List.set_cons_zero, List.set_cons_succ])
                refine wl_give rfl (g_ld1 3 _ (g3) (0 + k * 1) _ rfl (ld3 _ _ _ _ (by rw [Nat.mul_one, Nat.zero_add]; exact sl_cell hM k _ (enc_at hy))) ?_)
                (try simp only [Act.put, List.setIfInBounds_toArray, List.set_cons_zero, List.set_cons_succ])
                refine wl_give rfl (g_bs1 39 3 Try.underlying39 szof3 _ Try.zeroValue3 rfl _ (.int .i64 (yy)) rfl rfl hM ?_)
                intro w43 h_
                replace hM : Ms w0 w43 (blk (w42.heap.size) [.int .i64 (yy)] 3 :: sl 3 1 g3 c3 ((O).length) ((O).map encZ) :: row 3 1 v5 ((l).length) ((l).map encZ) :: blk (p) ([.int .i64 (x), .int .i64 (y), .int .i64 (d), .slice (some ⟨g, 0, none⟩) (L.length) (cap)]) 44 :: sl 64 2 g cap (L.length) (tcs L) :: R) := h_
                clear h_
                (try simp only [Act.put, List.setIfInBounds_toArray, List.set_cons_zero, List.set_cons_succ])
                refine wl_give rfl (g_apZ _ _ (v5) ((l).length) ((l).map encZ) (w42.heap.size) 1 ([.int .i64 (yy)]) 3 rfl rfl (show Ms w0 w43 (row 3 1 v5 ((l).length) ((l).map encZ) :: blk (w42.heap.size) [.int .i64 (yy)] 3 :: sl 3 1 g3 c3 ((O).length) ((O).map encZ) :: blk (p) ([.int .i64 (x), .int .i64 (y), .int .i64 (d), .slice (some ⟨g, 0, none⟩) (L.length) (cap)]) 44 :: sl 64 2 g cap (L.length) (tcs L) :: R) from (hM.up 2 rfl)) rfl (by simp [Value.oneCell']) (by omega) ?_)
                intro v45 w44 h_
                replace hM : Ms w0 w44 (row 3 1 v45 ((l).length + 1) ((l).map encZ ++ [.int .i64 (yy)]) :: blk (w42.heap.size) [.int .i64 (yy)] 3 :: sl 3 1 g3 c3 ((O).length) ((O).map encZ) :: blk (p) ([.int .i64 (x), .int .i64 (y), .int .i64 (d), .slice (some ⟨g, 0, none⟩) (L.length) (cap)]) 44 :: sl 64 2 g cap (L.length) (tcs L) :: R) := h_
                clear h_
                (try simp only [Act.put, List.setIfInBounds_toArray, List.set_cons_zero, List.set_cons_succ])
                refine wl_give rfl (g_assign _ (v45) rfl ?_)
                (try simp only [Act.put, List.setIfInBounds_toArray, List.set_cons_zero, List.set_cons_succ])
                refine wl_nil ?_
                refine hK25 _ _ ?_
                (try clear hK25 K25)
                refine wl_region ?_
                refine wl_give rfl (g_move _ (.int .i64 (((k : Nat) : Int))) rfl ?_)
                (try simp only [Act.put, List.setIfInBounds_toArray, List.set_cons_zero, List.set_cons_succ])
                refine wl_give rfl (g_ia 3 _ _ .i64 (((k : Nat) : Int)) (1) (((k + 1 : Nat) : Int)) rfl rfl (hk1.out) ?_)
                (try simp only [Act.put, List.setIfInBounds_toArray, List.set_cons_zero, List.set_cons_succ])
                refine wl_give rfl (g_assign _ (.int .i64 (((k + 1 : Nat) : Int))) rfl ?_)
                (try simp only [Act.put, List.setIfInBounds_toArray, List.set_cons_zero, List.set_cons_succ])
                refine wl_nil ?_
                (try simp only [Exit.then, Exit.inBlock, ↓reduceIte, Nat.reduceEqDiff])
                have h9 := sl_row (((((hM.up 1 rfl).up 4 rfl).up 4 rfl).up 3 rfl).up 4 rfl)
                replace h9 := h9.erase 4
                have h11 := h9.up 1 rfl
                refine ⟨n - 1, by omega, k + 1, _, l ++ [yy], v45, (tl [.pointer (some ⟨p, 0, none⟩), undef, .slice none (0) (0), .slice (some ⟨g3, 0, none⟩) ((O).length) (c3), .int .i64 (((j : Nat) : Int)), v45, .bool true, .int .i64 (((k + 1 : Nat) : Int)), tt 8, tt 9, tt 10, tt 11, tt 12, tt 13, tt 14, tt 15, tt 16, tt 17, tt 18, .int .i64 (((k : Nat) : Int)), .slice (some ⟨g3, 0, none⟩) ((O).length) (c3), .int .i64 ((((O).length : Nat) : Int)), .bool true, .int .i64 (((k : Nat) : Int)), .int .i64 (((k + 1 : Nat) : Int)), .bool false, .bool true, .bool true, .pointer (some ⟨p, 0, none⟩), .pointer (some ⟨p, 0, none⟩), .pointer (some ⟨p, 3, none⟩), .slice (some ⟨g, 0, none⟩) (L.length) (cap), .int .i64 (((j : Nat) : Int)), .pointer (some ⟨g, 0 + j * 2, none⟩), .pointer (some ⟨g, 0 + j * 2, none⟩), .int .i64 (t.1), .slice (some ⟨g3, 0, none⟩) ((O).length) (c3), .int .i64 (((k : Nat) : Int)), .pointer (some ⟨g3, 0 + k * 1, none⟩), .int .i64 (yy), .bool true, .bool true, .pointer (some ⟨p, 0, none⟩), .pointer (some ⟨p, 0, none⟩), .pointer (some ⟨p, 3, none⟩), .slice (some ⟨g, 0, none⟩) (L.length) (cap), .int .i64 (((j : Nat) : Int)), .pointer (some ⟨g, 0 + j * 2, none⟩), .pointer (some ⟨g, 0 + j * 2, none⟩), .int .i64 (t.1), .slice (some ⟨g3, 0, none⟩) ((O).length) (c3), .int .i64 (((k : Nat) : Int)), .pointer (some ⟨g3, 0 + k * 1, none⟩), .int .i64 (yy), .bool false, tt 55, tt 56, tt 57, tt 58, tt 59, tt 60, tt 61, tt 62, tt 63, tt 64, tt 65, v5, .slice (some ⟨g3, 0, none⟩) ((O).length) (c3), .int .i64 (((k : Nat) : Int)), .pointer (some ⟨g3, 0 + k * 1, none⟩), .int .i64 (yy), .slice (some ⟨w42.heap.size, 0, none⟩) (1) (1), v45, tt 73, tt 74, tt 75, tt 76, tt 77, tt 78, tt 79, tt 80, tt 81, tt 82, tt 83, tt 84, tt 85, tt 86, tt 87]), rfl, by omega, htk2 ▸ insI_eq hI (by omega), ?_⟩
                rw [List.length_append, List.map_append]
                exact h11
        · skip
          refine wp_seq_k (fun K46 hK46 => ?_)
          refine wp_region_fixed (by kernel_rfl) (by kernel_rfl) [.bool false, .bool true, .bool true, .pointer (some ⟨p, 0, none⟩), .pointer (some ⟨p, 0, none⟩), .pointer (some ⟨p, 3, none⟩), .slice (some ⟨g, 0, none⟩) (L.length) (cap), .int .i64 (((j : Nat) : Int)), .pointer (some ⟨g, 0 + j * 2, none⟩), .pointer (some ⟨g, 0 + j * 2, none⟩), .int .i64 (t.1), .slice (some ⟨g3, 0, none⟩) ((O).length) (c3), .int .i64 (((k : Nat) : Int)), .pointer (some ⟨g3, 0 + k * 1, none⟩), .int .i64 (yy), .bool false, .bool false] (by rfl) (fun wx => Ms w0 wx (sl 3 1 g3 c3 ((O).length) ((O).map encZ) :: row 3 1 v5 ((l).length) ((l).map encZ) :: blk (p) ([.int .i64 (x), .int .i64 (y), .int .i64 (d), .slice (some ⟨g, 0, none⟩) (L.length) (cap)]) 44 :: sl 64 2 g cap (L.length) (tcs L) :: R)) hM.drew ?_ ?_
          · simp only [fullL, Act.put, List.setIfInBounds_toArray, List.set_cons_succ, List.set_cons_zero]
            refine ⟨?_, ?_, ?_, ?_, ?_, ?_, ?_, ?_, ?_, ?_, ?_, ?_, ?_, ?_, ?_, ?_, ?_, trivial⟩
            · exact fun wx hM => gw rfl (g_move _ (.bool false) rfl ⟨rfl, hM⟩)
            · exact fun wx hM => gw rfl (g_unot 4 _ false rfl ⟨rfl, hM⟩)
            · exact fun wx hM => gw rfl (g_move _ (.bool true) rfl ⟨rfl, hM⟩)
            · exact fun wx hM => gw rfl (g_move _ (.pointer (some ⟨p, 0, none⟩)) rfl ⟨rfl, hM⟩)
            · exact fun wx hM => gw rfl (g_nil _ ⟨p, 0, none⟩ rfl ⟨rfl, hM⟩)
            · exact fun wx hM => gw rfl (g_fa 44 _ (p) (0) (3) 3 rfl (fa44_3 _ _ _) ⟨rfl, hM⟩)
            · exact fun wx hM => gw rfl (g_ld1 42 _ (p) 3 _ rfl (ld42 _ _ _ _ ((hM.get 2 rfl).cell 3 _ rfl)) ⟨rfl, hM⟩)
            · exact fun wx hM => gw rfl (g_move _ (.int .i64 (((j : Nat) : Int))) rfl ⟨rfl, hM⟩)
            · exact fun wx hM => gw rfl (g_ix _ _ 42 64 2 Try.underlying42 szof64 g 0 L.length cap j (0 + j * 2) _ rfl rfl rfl hjl rfl ⟨rfl, hM⟩)
            · exact fun wx hM => gw rfl (g_fa 64 _ g (0 + j * 2) (0 + j * 2) 0 rfl (fa64_0 _ _ _) ⟨rfl, hM⟩)
            · exact fun wx hM => gw rfl (g_ld1 3 _ (g) (0 + j * 2) _ rfl (ld3 _ _ _ _ (by rw [Nat.zero_add]; exact sl_cell (show Ms w0 _ (sl 64 2 g cap (L.length) (tcs L) :: sl 3 1 g3 c3 ((O).length) ((O).map encZ) :: row 3 1 v5 ((l).length) ((l).map encZ) :: blk (p) ([.int .i64 (x), .int .i64 (y), .int .i64 (d), .slice (some ⟨g, 0, none⟩) (L.length) (cap)]) 44 :: R) from (hM.up 3 rfl)) _ _ (tcs_at ht).1)) ⟨rfl, hM⟩)
            · exact fun wx hM => gw rfl (g_move _ (.slice (some ⟨g3, 0, none⟩) ((O).length) (c3)) rfl ⟨rfl, hM⟩)
            · exact fun wx hM => gw rfl (g_move _ (.int .i64 (((k : Nat) : Int))) rfl ⟨rfl, hM⟩)
            · exact fun wx hM => gw rfl (g_ix _ _ 39 3 1 Try.underlying39 szof3 g3 0 (O).length c3 k (0 + k * 1) _ rfl rfl rfl hkl rfl ⟨rfl, hM⟩)
            · exact fun wx hM => gw rfl (g_ld1 3 _ (g3) (0 + k * 1) _ rfl (ld3 _ _ _ _ (by rw [Nat.mul_one, Nat.zero_add]; exact sl_cell hM k _ (enc_at hy))) ⟨rfl, hM⟩)
            · exact fun wx hM => gw rfl (g_ileq 3 _ _ .i64 (t.1) (yy) false rfl rfl (decide_eq_false h1) ⟨rfl, hM⟩)
            · exact fun wx hM => gw rfl (g_pickt _ _ _ (.bool false) rfl rfl ⟨rfl, hM⟩)
          · simp only [fullL, Act.put, List.setIfInBounds_toArray, List.set_cons_succ, List.set_cons_zero]
            intro w47 hM
            refine hK46 _ _ ?_
            (try clear hK46 K46)
            refine wp_cond_false rfl ?_
            refine wp_skip ?_
            refine hK26 _ _ ?_
            (try clear hK26 K26)
            refine wl_region ?_
            refine wl_give rfl (g_move _ (v5) rfl ?_)
            (try simp only [Act.put, List.setIfInBounds_toArray, List.set_cons_zero, List.set_cons_succ])
            refine wl_give rfl (g_move _ (.slice (some ⟨g3, 0, none⟩) ((O).length) (c3)) rfl ?_)
            (try simp only [Act.put, List.setIfInBounds_toArray, List.set_cons_zero, List.set_cons_succ])
            refine wl_give rfl (g_move _ (.int .i64 (((k : Nat) : Int))) rfl ?_)
            (try simp only [Act.put, List.setIfInBounds_toArray, List.set_cons_zero, List.set_cons_succ])
            refine wl_give rfl (g_ix _ _ 39 3 1 Try.underlying39 szof3 g3 0 (O).length c3 k (0 + k * 1) _ rfl rfl rfl hkl rfl ?_)
            (try simp only [Act.put, List.setIfInBounds_toArray, List.set_cons_zero, List.set_cons_succ])
            refine wl_give rfl (g_ld1 3 _ (g3) (0 + k * 1) _ rfl (ld3 _ _ _ _ (by rw [Nat.mul_one, Nat.zero_add]; exact sl_cell hM k _ (enc_at hy))) ?_)
            (try simp only [Act.put, List.setIfInBounds_toArray, List.set_cons_zero, List.set_cons_succ])
            refine wl_give rfl (g_bs1 39 3 Try.underlying39 szof3 _ Try.zeroValue3 rfl _ (.int .i64 (yy)) rfl rfl hM ?_)
            intro w48 h_
            replace hM : Ms w0 w48 (blk (w47.heap.size) [.int .i64 (yy)] 3 :: sl 3 1 g3 c3 ((O).length) ((O).map encZ) :: row 3 1 v5 ((l).length) ((l).map encZ) :: blk (p) ([.int .i64 (x), .int .i64 (y), .int .i64 (d), .slice (some ⟨g, 0, none⟩) (L.length) (cap)]) 44 :: sl 64 2 g cap (L.length) (tcs L) :: R) := h_
            clear h_
            (try simp only [Act.put, List.setIfInBounds_toArray, List.set_cons_zero, List.set_cons_succ])
            refine wl_give rfl (g_apZ _ _ (v5) ((l).length) ((l).map encZ) (w47.heap.size) 1 ([.int .i64 (yy)]) 3 rfl rfl (show Ms w0 w48 (row 3 1 v5 ((l).length) ((l).map encZ) :: blk (w47.heap.size) [.int .i64 (yy)] 3 :: sl 3 1 g3 c3 ((O).length) ((O).map encZ) :: blk (p) ([.int .i64 (x), .int .i64 (y), .int .i64 (d), .slice (some ⟨g, 0, none⟩) (L.length) (cap)]) 44 :: sl 64 2 g cap (L.length) (tcs L) :: R) from (hM.up 2 rfl)) rfl (by simp [Value.oneCell']) (by omega) ?_)
            intro v50 w49 h_
            replace hM : Ms w0 w49 (row 3 1 v50 ((l).length + 1) ((l).map encZ ++ [.int .i64 (yy)]) :: blk (w47.heap.size) [.int .i64 (yy)] 3 :: sl 3 1 g3 c3 ((O).length) ((O).map encZ) :: blk (p) ([.int .i64 (x), .int .i64 (y), .int .i64 (d), .slice (some ⟨g, 0, none⟩) (L.length) (cap)]) 44 :: sl 64 2 g cap (L.length) (tcs L) :: R) := h_
            clear h_
            (try simp only [Act.put, List.setIfInBounds_toArray, List.set_cons_zero, List.set_cons_succ])
            refine wl_give rfl (g_assign _ (v50) rfl ?_)
            (try simp only [Act.put, List.setIfInBounds_toArray, List.set_cons_zero, List.set_cons_succ])
            refine wl_nil ?_
            refine hK25 _ _ ?_
            (try clear hK25 K25)
            refine wl_region ?_
            refine wl_give rfl (g_move _ (.int .i64 (((k : Nat) : Int))) rfl ?_)
            (try simp only [Act.put, List.setIfInBounds_toArray, List.set_cons_zero, List.set_cons_succ])
            refine wl_give rfl (g_ia 3 _ _ .i64 (((k : Nat) : Int)) (1) (((k + 1 : Nat) : Int)) rfl rfl (hk1.out) ?_)
            (try simp only [Act.put, List.setIfInBounds_toArray, List.set_cons_zero, List.set_cons_succ])
            refine wl_give rfl (g_assign _ (.int .i64 (((k + 1 : Nat) : Int))) rfl ?_)
            (try simp only [Act.put, List.setIfInBounds_toArray, List.set_cons_zero, List.set_cons_succ])
            refine wl_nil ?_
            (try simp only [Exit.then, Exit.inBlock, ↓reduceIte, Nat.reduceEqDiff])
            have h9 := sl_row (((((hM.up 1 rfl).up 4 rfl).up 4 rfl).up 3 rfl).up 4 rfl)
            replace h9 := h9.erase 4
            have h11 := h9.up 1 rfl
            refine ⟨n - 1, by omega, k + 1, _, l ++ [yy], v50, (tl [.pointer (some ⟨p, 0, none⟩), undef, .slice none (0) (0), .slice (some ⟨g3, 0, none⟩) ((O).length) (c3), .int .i64 (((j : Nat) : Int)), v50, .bool false, .int .i64 (((k + 1 : Nat) : Int)), tt 8, tt 9, tt 10, tt 11, tt 12, tt 13, tt 14, tt 15, tt 16, tt 17, tt 18, .int .i64 (((k : Nat) : Int)), .slice (some ⟨g3, 0, none⟩) ((O).length) (c3), .int .i64 ((((O).length : Nat) : Int)), .bool true, .int .i64 (((k : Nat) : Int)), .int .i64 (((k + 1 : Nat) : Int)), .bool false, .bool true, .bool true, .pointer (some ⟨p, 0, none⟩), .pointer (some ⟨p, 0, none⟩), .pointer (some ⟨p, 3, none⟩), .slice (some ⟨g, 0, none⟩) (L.length) (cap), .int .i64 (((j : Nat) : Int)), .pointer (some ⟨g, 0 + j * 2, none⟩), .pointer (some ⟨g, 0 + j * 2, none⟩), .int .i64 (t.1), .slice (some ⟨g3, 0, none⟩) ((O).length) (c3), .int .i64 (((k : Nat) : Int)), .pointer (some ⟨g3, 0 + k * 1, none⟩), .int .i64 (yy), .bool false, .bool false, tt 42, tt 43, tt 44, tt 45, tt 46, tt 47, tt 48, tt 49, tt 50, tt 51, tt 52, tt 53, tt 54, tt 55, tt 56, tt 57, tt 58, tt 59, tt 60, tt 61, tt 62, tt 63, tt 64, tt 65, v5, .slice (some ⟨g3, 0, none⟩) ((O).length) (c3), .int .i64 (((k : Nat) : Int)), .pointer (some ⟨g3, 0 + k * 1, none⟩), .int .i64 (yy), .slice (some ⟨w47.heap.size, 0, none⟩) (1) (1), v50, tt 73, tt 74, tt 75, tt 76, tt 77, tt 78, tt 79, tt 80, tt 81, tt 82, tt 83, tt 84, tt 85, tt 86, tt 87]), rfl, by omega, htk2 ▸ insI_gt hI h1, ?_⟩
            rw [List.length_append, List.map_append]
            exact h11
    · have hkn : k = O.length := by omega
      rw [hkn, List.take_length] at hI
      cases dn with
      | true =>
        refine wp_seq_k (fun K51 hK51 => ?_)
        refine wp_seq_k (fun K52 hK52 => ?_)
        refine wl_region ?_
        refine wl_give rfl (g_move _ (.int .i64 (((k : Nat) : Int))) rfl ?_)
        (try simp only [Act.put, List.setIfInBounds_toArray, List.set_cons_zero, List.set_cons_succ])
        refine wl_give rfl (g_move _ (.slice o3 ((O).length) (c3)) rfl ?_)
        (try simp only [Act.put, List.setIfInBounds_toArray, List.set_cons_zero, List.set_cons_succ])
        refine wl_give rfl (g_len _ 39 3 (o3) ((O).length) (c3) ((((O).length : Nat) : Int)) Try.underlying39 rfl rfl ?_)
        (try simp only [Act.put, List.setIfInBounds_toArray, List.set_cons_zero, List.set_cons_succ])
        refine wl_give rfl (g_ilss 3 _ _ .i64 (((k : Nat) : Int)) ((((O).length : Nat) : Int)) false rfl rfl (decide_eq_false hlk) ?_)
        (try simp only [Act.put, List.setIfInBounds_toArray, List.set_cons_zero, List.set_cons_succ])
        refine wl_nil ?_
        refine hK52 _ _ ?_
        (try clear hK52 K52)
        refine wp_cond_false rfl ?_
        refine wp_exit ?_
        refine hK12 _ _ ?_
        (try clear hK12 K12)
        refine wp_seq_k (fun K53 hK53 => ?_)
        refine wp_seq_k (fun K54 hK54 => ?_)
        refine wl_region ?_
        refine wl_give rfl (g_move _ (.bool true) rfl ?_)
        (try simp only [Act.put, List.setIfInBounds_toArray, List.set_cons_zero, List.set_cons_succ])
        refine wl_give rfl (g_unot 4 _ true rfl ?_)
        (try simp only [Act.put, List.setIfInBounds_toArray, List.set_cons_zero, List.set_cons_succ])
        refine wl_nil ?_
        refine hK54 _ _ ?_
        (try clear hK54 K54)
        refine wp_cond_false rfl ?_
        refine wp_skip ?_
        refine hK53 _ _ ?_
        (try clear hK53 K53)
        refine wl_region ?_
        refine wl_give rfl (g_move _ (v5) rfl ?_)
        (try simp only [Act.put, List.setIfInBounds_toArray, List.set_cons_zero, List.set_cons_succ])
        refine wl_give rfl (g_assign _ (v5) rfl ?_)
        (try simp only [Act.put, List.setIfInBounds_toArray, List.set_cons_zero, List.set_cons_succ])
        refine wl_nil ?_
        refine hK8 _ _ ?_
        (try clear hK8 K8)
        refine wl_region ?_
        refine wl_give rfl (g_move _ (.int .i64 (((j : Nat) : Int))) rfl ?_)
        (try simp only [Act.put, List.setIfInBounds_toArray, List.set_cons_zero, List.set_cons_succ])
        refine wl_give rfl (g_ia 3 _ _ .i64 (((j : Nat) : Int)) (1) (((j + 1 : Nat) : Int)) rfl rfl (hj1.out) ?_)
        (try simp only [Act.put, List.setIfInBounds_toArray, List.set_cons_zero, List.set_cons_succ])
        refine wl_give rfl (g_assign _ (.int .i64 (((j + 1 : Nat) : Int))) rfl ?_)
        (try simp only [Act.put, List.setIfInBounds_toArray, List.set_cons_zero, List.set_cons_succ])
        refine wl_nil ?_
        (try simp only [Exit.then, Exit.inBlock, ↓reduceIte, Nat.reduceEqDiff])
        have h9 := sl_row ((((hM.up 1 rfl).up 2 rfl).up 2 rfl).up 3 rfl)
        replace h9 := h9.erase 3
        have h11 := (h9.up 1 rfl)
        replace h11 := (h11.up 2 rfl).up 1 rfl
        refine ⟨m - 1, by omega, j + 1, v5, (tl [.pointer (some ⟨p, 0, none⟩), undef, .slice none (0) (0), v5, .int .i64 (((j + 1 : Nat) : Int)), v5, .bool true, .int .i64 (((k : Nat) : Int)), tt 8, tt 9, tt 10, tt 11, tt 12, tt 13, tt 14, tt 15, .int .i64 (((j : Nat) : Int)), .int .i64 (((j + 1 : Nat) : Int)), tt 18, .int .i64 (((k : Nat) : Int)), .slice o3 ((O).length) (c3), .int .i64 ((((O).length : Nat) : Int)), .bool false, tt 23, tt 24, tt 25, tt 26, tt 27, tt 28, tt 29, tt 30, tt 31, tt 32, tt 33, tt 34, tt 35, tt 36, tt 37, tt 38, tt 39, tt 40, tt 41, tt 42, tt 43, tt 44, tt 45, tt 46, tt 47, tt 48, tt 49, tt 50, tt 51, tt 52, tt 53, tt 54, tt 55, tt 56, tt 57, tt 58, tt 59, tt 60, tt 61, tt 62, tt 63, tt 64, tt 65, tt 66, tt 67, tt 68, tt 69, tt 70, tt 71, tt 72, .bool true, .bool false, tt 75, tt 76, tt 77, tt 78, tt 79, tt 80, tt 81, tt 82, tt 83, tt 84, tt 85, v5, tt 87]), rfl, by omega, ?_⟩
        rw [htk, insI_t hI]
        exact h11
      | false =>
        refine wp_seq_k (fun K55 hK55 => ?_)
        refine wp_seq_k (fun K56 hK56 => ?_)
        refine wl_region ?_
        refine wl_give rfl (g_move _ (.int .i64 (((k : Nat) : Int))) rfl ?_)
        (try simp only [Act.put, List.setIfInBounds_toArray, List.set_cons_zero, List.set_cons_succ])
        refine wl_give rfl (g_move _ (.slice o3 ((O).length) (c3)) rfl ?_)
        (try simp only [Act.put, List.setIfInBounds_toArray, List.set_cons_zero, List.set_cons_succ])
        refine wl_give rfl (g_len _ 39 3 (o3) ((O).length) (c3) ((((O).length : Nat) : Int)) Try.underlying39 rfl rfl ?_)
        (try simp only [Act.put, List.setIfInBounds_toArray, List.set_cons_zero, List.set_cons_succ])
        refine wl_give rfl (g_ilss 3 _ _ .i64 (((k : Nat) : Int)) ((((O).length : Nat) : Int)) false rfl rfl (decide_eq_false hlk) ?_)
        (try simp only [Act.put, List.setIfInBounds_toArray, List.set_cons_zero, List.set_cons_succ])
        refine wl_nil ?_
        refine hK56 _ _ ?_
        (try clear hK56 K56)
        refine wp_cond_false rfl ?_
        refine wp_exit ?_
        refine hK12 _ _ ?_
        (try clear hK12 K12)
        refine wp_seq_k (fun K57 hK57 => ?_)
        refine wp_seq_k (fun K58 hK58 => ?_)
        refine wl_region ?_
        refine wl_give rfl (g_move _ (.bool false) rfl ?_)
        (try simp only [Act.put, List.setIfInBounds_toArray, List.set_cons_zero, List.set_cons_succ])
        refine wl_give rfl (g_unot 4 _ false rfl ?_)
        (try simp only [Act.put, List.setIfInBounds_toArray, List.set_cons_zero, List.set_cons_succ])
        refine wl_nil ?_
        refine hK58 _ _ ?_
        (try clear hK58 K58)
        refine wp_cond_true rfl ?_
        refine wl_region ?_
        refine wl_give rfl (g_move _ (v5) rfl ?_)
        (try simp only [Act.put, List.setIfInBounds_toArray, List.set_cons_zero, List.set_cons_succ])
        refine wl_give rfl (g_move _ (.pointer (some ⟨p, 0, none⟩)) rfl ?_)
        (try simp only [Act.put, List.setIfInBounds_toArray, List.set_cons_zero, List.set_cons_succ])
        refine wl_give rfl (g_nil _ ⟨p, 0, none⟩ rfl ?_)
        (try simp only [Act.put, List.setIfInBounds_toArray, List.set_cons_zero, List.set_cons_succ])
        refine wl_give rfl (g_fa 44 _ (p) (0) (3) 3 rfl (fa44_3 _ _ _) ?_)
        (try simp only [Act.put, List.setIfInBounds_toArray, List.set_cons_zero, List.set_cons_succ])
        refine wl_give rfl (g_ld1 42 _ (p) 3 _ rfl (ld42 _ _ _ _ ((hM.get 2 rfl).cell 3 _ rfl)) ?_)
        (try simp only [Act.put, List.setIfInBounds_toArray, List.set_cons_zero, List.set_cons_succ])
        refine wl_give rfl (g_move _ (.int .i64 (((j : Nat) : Int))) rfl ?_)
        (try simp only [Act.put, List.setIfInBounds_toArray, List.set_cons_zero, List.set_cons_succ])
        refine wl_give rfl (g_ix _ _ 42 64 2 Try.underlying42 szof64 g 0 L.length cap j (0 + j * 2) _ rfl rfl rfl hjl rfl ?_)
        (try simp only [Act.put, List.setIfInBounds_toArray, List.set_cons_zero, List.set_cons_succ])
        refine wl_give rfl (g_fa 64 _ g (0 + j * 2) (0 + j * 2) 0 rfl (fa64_0 _ _ _) ?_)
        (try simp only [Act.put, List.setIfInBounds_toArray, List.set_cons_zero, List.set_cons_succ])
        refine wl_give rfl (g_ld1 3 _ (g) (0 + j * 2) _ rfl (ld3 _ _ _ _ (by rw [Nat.zero_add]; exact sl_cell (show Ms w0 _ (sl 64 2 g cap (L.length) (tcs L) :: row 3 1 v5 ((l).length) ((l).map encZ) :: row 3 1 (.slice o3 (O).length c3) ((O).length) ((O).map encZ) :: blk (p) ([.int .i64 (x), .int .i64 (y), .int .i64 (d), .slice (some ⟨g, 0, none⟩) (L.length) (cap)]) 44 :: R) from (hM.up 3 rfl)) _ _ (tcs_at ht).1)) ?_)
        (try simp only [Act.put, List.setIfInBounds_toArray, List.set_cons_zero, List.set_cons_succ])
        refine wl_give rfl (g_bs1 39 3 Try.underlying39 szof3 _ Try.zeroValue3 rfl _ (.int .i64 (t.1)) rfl rfl hM ?_)
        intro w59 h_
        replace hM : Ms w0 w59 (blk (wr.heap.size) [.int .i64 (t.1)] 3 :: row 3 1 v5 ((l).length) ((l).map encZ) :: row 3 1 (.slice o3 (O).length c3) ((O).length) ((O).map encZ) :: blk (p) ([.int .i64 (x), .int .i64 (y), .int .i64 (d), .slice (some ⟨g, 0, none⟩) (L.length) (cap)]) 44 :: sl 64 2 g cap (L.length) (tcs L) :: R) := h_
        clear h_
        (try simp only [Act.put, List.setIfInBounds_toArray, List.set_cons_zero, List.set_cons_succ])
        refine wl_give rfl (g_apZ _ _ (v5) ((l).length) ((l).map encZ) (wr.heap.size) 1 ([.int .i64 (t.1)]) 3 rfl rfl (show Ms w0 w59 (row 3 1 v5 ((l).length) ((l).map encZ) :: blk (wr.heap.size) [.int .i64 (t.1)] 3 :: row 3 1 (.slice o3 (O).length c3) ((O).length) ((O).map encZ) :: blk (p) ([.int .i64 (x), .int .i64 (y), .int .i64 (d), .slice (some ⟨g, 0, none⟩) (L.length) (cap)]) 44 :: sl 64 2 g cap (L.length) (tcs L) :: R) from (hM.up 1 rfl)) rfl (by simp [Value.oneCell']) (by omega) ?_)
        intro v61 w60 h_
        replace hM : Ms w0 w60 (row 3 1 v61 ((l).length + 1) ((l).map encZ ++ [.int .i64 (t.1)]) :: blk (wr.heap.size) [.int .i64 (t.1)] 3 :: row 3 1 (.slice o3 (O).length c3) ((O).length) ((O).map encZ) :: blk (p) ([.int .i64 (x), .int .i64 (y), .int .i64 (d), .slice (some ⟨g, 0, none⟩) (L.length) (cap)]) 44 :: sl 64 2 g cap (L.length) (tcs L) :: R) := h_
        clear h_
        (try simp only [Act.put, List.setIfInBounds_toArray, List.set_cons_zero, List.set_cons_succ])
        refine wl_give rfl (g_assign _ (v61) rfl ?_)
        (try simp only [Act.put, List.setIfInBounds_toArray, List.set_cons_zero, List.set_cons_succ])
        refine wl_nil ?_
        refine hK57 _ _ ?_
        (try clear hK57 K57)
        refine wl_region ?_
        refine wl_give rfl (g_move _ (v61) rfl ?_)
        (try simp only [Act.put, List.setIfInBounds_toArray, List.set_cons_zero, List.set_cons_succ])
        refine wl_give rfl (g_assign _ (v61) rfl ?_)
        (try simp only [Act.put, List.setIfInBounds_toArray, List.set_cons_zero, List.set_cons_succ])
        refine wl_nil ?_
        refine hK8 _ _ ?_
        (try clear hK8 K8)
        refine wl_region ?_
        refine wl_give rfl (g_move _ (.int .i64 (((j : Nat) : Int))) rfl ?_)
        (try simp only [Act.put, List.setIfInBounds_toArray, List.set_cons_zero, List.set_cons_succ])
        refine wl_give rfl (g_ia 3 _ _ .i64 (((j : Nat) : Int)) (1) (((j + 1 : Nat) : Int)) rfl rfl (hj1.out) ?_)
        (try simp only [Act.put, List.setIfInBounds_toArray, List.set_cons_zero, List.set_cons_succ])
        refine wl_give rfl (g_assign _ (.int .i64 (((j + 1 : Nat) : Int))) rfl ?_)
        (try simp only [Act.put, List.setIfInBounds_toArray, List.set_cons_zero, List.set_cons_succ])
        refine wl_nil ?_
        (try simp only [Exit.then, Exit.inBlock, ↓reduceIte, Nat.reduceEqDiff])
        have h9 := sl_row (((((hM.up 2 rfl).up 2 rfl).up 3 rfl).up 3 rfl).up 4 rfl)
        replace h9 := h9.erase 3
        replace h9 := h9.erase 3
        have h11 := (h9.up 1 rfl)
        replace h11 := (h11.up 2 rfl).up 1 rfl
        refine ⟨m - 1, by omega, j + 1, v61, (tl [.pointer (some ⟨p, 0, none⟩), undef, .slice none (0) (0), v61, .int .i64 (((j + 1 : Nat) : Int)), v61, .bool false, .int .i64 (((k : Nat) : Int)), tt 8, tt 9, tt 10, tt 11, tt 12, tt 13, tt 14, tt 15, .int .i64 (((j : Nat) : Int)), .int .i64 (((j + 1 : Nat) : Int)), tt 18, .int .i64 (((k : Nat) : Int)), .slice o3 ((O).length) (c3), .int .i64 ((((O).length : Nat) : Int)), .bool false, tt 23, tt 24, tt 25, tt 26, tt 27, tt 28, tt 29, tt 30, tt 31, tt 32, tt 33, tt 34, tt 35, tt 36, tt 37, tt 38, tt 39, tt 40, tt 41, tt 42, tt 43, tt 44, tt 45, tt 46, tt 47, tt 48, tt 49, tt 50, tt 51, tt 52, tt 53, tt 54, tt 55, tt 56, tt 57, tt 58, tt 59, tt 60, tt 61, tt 62, tt 63, tt 64, tt 65, tt 66, tt 67, tt 68, tt 69, tt 70, tt 71, tt 72, .bool false, .bool true, v5, .pointer (some ⟨p, 0, none⟩), .pointer (some ⟨p, 0, none⟩), .pointer (some ⟨p, 3, none⟩), .slice (some ⟨g, 0, none⟩) (L.length) (cap), .int .i64 (((j : Nat) : Int)), .pointer (some ⟨g, 0 + j * 2, none⟩), .pointer (some ⟨g, 0 + j * 2, none⟩), .int .i64 (t.1), .slice (some ⟨wr.heap.size, 0, none⟩) (1) (1), v61, v61, tt 87]), rfl, by omega, ?_⟩
        rw [htk, insI_f hI]
        rw [List.length_append, List.map_append]
        exact h11
  · have hjn : j = L.length := by omega
    refine wp_seq_k (fun K62 hK62 => ?_)
    refine wp_seq_k (fun K63 hK63 => ?_)
    refine wl_region ?_
    refine wl_give rfl (g_move _ (.int .i64 (((j : Nat) : Int))) rfl ?_)
    (try simp only [Act.put, List.setIfInBounds_toArray, List.set_cons_zero, List.set_cons_succ])
    refine wl_give rfl (g_move _ (.pointer (some ⟨p, 0, none⟩)) rfl ?_)
    (try simp only [Act.put, List.setIfInBounds_toArray, List.set_cons_zero, List.set_cons_succ])
    refine wl_give rfl (g_nil _ ⟨p, 0, none⟩ rfl ?_)
    (try simp only [Act.put, List.setIfInBounds_toArray, List.set_cons_zero, List.set_cons_succ])
    refine wl_give rfl (g_fa 44 _ (p) (0) (3) 3 rfl (fa44_3 _ _ _) ?_)
    (try simp only [Act.put, List.setIfInBounds_toArray, List.set_cons_zero, List.set_cons_succ])
    refine wl_give rfl (g_ld1 42 _ (p) 3 _ rfl (ld42 _ _ _ _ ((hM.get 1 rfl).cell 3 _ rfl)) ?_)
    (try simp only [Act.put, List.setIfInBounds_toArray, List.set_cons_zero, List.set_cons_succ])
    refine wl_give rfl (g_len _ 42 64 (ao) (L.length) (cap) (((L.length : Nat) : Int)) Try.underlying42 rfl rfl ?_)
    (try simp only [Act.put, List.setIfInBounds_toArray, List.set_cons_zero, List.set_cons_succ])
    refine wl_give rfl (g_ilss 3 _ _ .i64 (((j : Nat) : Int)) (((L.length : Nat) : Int)) false rfl rfl (decide_eq_false hlt) ?_)
    (try simp only [Act.put, List.setIfInBounds_toArray, List.set_cons_zero, List.set_cons_succ])
    refine wl_nil ?_
    refine hK63 _ _ ?_
    (try clear hK63 K63)
    refine wp_cond_false rfl ?_
    refine wp_exit ?_
    refine hK4 _ _ ?_
    (try clear hK4 K4)
    refine wp_seq_k (fun K64 hK64 => ?_)
    refine wl_region ?_
    refine wl_give rfl (g_move _ (v) rfl ?_)
    (try simp only [Act.put, List.setIfInBounds_toArray, List.set_cons_zero, List.set_cons_succ])
    refine wl_give rfl (g_assign _ (v) rfl ?_)
    (try simp only [Act.put, List.setIfInBounds_toArray, List.set_cons_zero, List.set_cons_succ])
    refine wl_nil ?_
    refine hK64 _ _ ?_
    (try clear hK64 K64)
    refine wp_ret ?_
    rw [hjn, List.take_length] at hM
    obtain ⟨o1, k1, rfl, _⟩ := row_slice hM
    go_ret
    exact ⟨_, _, rfl, hM⟩
theorem rivals_any {w0 w : World} {R : List HP} {p : Nat} {x y d : Int} {L : List Thg} (hM : Ms w0 w (rb p x y d L :: R)) (hL : L.length ≤ 10000) : Calls Try.prog 22 #[.pointer (some ⟨p, 0, none⟩)] w fun e w' => ∃ v, e = .returned v ∧ Ms w0 w' (row 3 1 v (ivs L).length ((ivs L).map encZ) :: rb p x y d L :: R) := by
  obtain ⟨ao, cap, hM⟩ := rb_cut hM
  exact (rivals_op hM hL).mono fun e w' ⟨o1, k1, h1, h2⟩ => ⟨_, h1, (rb_mk ((h2.up 1 rfl).up 2 rfl |>.up 1 rfl)).up 1 rfl⟩
end Go.Proofs.Ytpkjocibgmjhdaa
