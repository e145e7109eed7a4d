/- What the reference's Put answers. -/
import Derived.Test.YtpkjocibgmjhdaaRf3
namespace Go.Proofs.Ytpkjocibgmjhdaa
set_option maxRecDepth 10000
open Go Go.RowKit
set_option linter.unusedVariables false
set_option linter.unusedSimpArgs false

theorem run_app_none {P : Program} {w : World} (t ty e : TypeId) (i : TypeInfo) (ht : P.underlying t = some (.slice e)) (hi : P.info? e = some i) (g : Nat) (ao : Option Addr) (c : Nat) :
    (Builtin.append_ #[t, t] ty #[.slice (some ⟨g, 0, none⟩) 0 0, .slice ao 0 c]).run P w = .ok (.slice (some ⟨g, 0, none⟩) 0 0) w := by
  cases ao <;> simp [Builtin.append_, run_underlying ht, sizeOf, typeInfo, hi, Builtin.lenOf, Builtin.firstCells, storeCells, loadCells, loadCellsFrom]
section
variable {a : Act} {w0 w : World} {R : List HP} {dst : Option Tmp} {ty : TypeId} {pos : String} {aft : Array Edge} {gd : Option (Nat × Bool)} {K : Value → World → Prop}
/-- append([]Thing{}, l...) -/
theorem g_apAll (x y : Operand) (g : Nat) (ao : Option Addr) (m cap : Nat) (news : List Value) (hx : a.eval x = .slice (some ⟨g, 0, none⟩) 0 0) (hy : a.eval y = .slice ao m cap)
    (h : Ms w0 w (row 64 2 (.slice (some ⟨g, 0, none⟩) 0 0) 0 [] :: row 64 2 (.slice ao m cap) m news :: R)) (hmx : m ≤ 100000)
    (hk : ∀ v' w', Ms w0 w' (row 64 2 v' m news :: row 64 2 (.slice ao m cap) m news :: R) → K v' w') :
    gives Try.prog ⟨dst, .call { callee := .builtin .append, args := #[x, y], argTypes := #[42, 42] }, ty, pos, aft, gd⟩ a w K := by
  obtain ⟨i, z, h2, h3, h4, h5, h6⟩ := inf64
  obtain ⟨_, _, _, _, hl⟩ := row_slice (h.up 1 rfl)
  by_cases hm : m = 0
  · subst hm
    obtain rfl : news = [] := List.eq_nil_of_length_eq_zero (by simpa using hl)
    exact g_val _ w (by simp only [execOp, resolve, invoke, builtin, Sem.run_bind, Sem.run_pure, Result.andThen_ok, List.map_toArray, List.map_cons, List.map_nil, hx, hy, run_app_none 42 ty 64 i Try.underlying42 h2 g ao cap]) (hk _ _ h)
  · obtain ⟨g2, k2, hv, hs⟩ := row_sl (h.up 1 rfl) (by omega)
    cases hv
    have hr := run_append_grow (P := Try.prog) w 42 ty 64 i z Try.underlying42 h2 h3 ⟨g, 0, none⟩ 0 0 [] (by simp) (by simp) ⟨g2, 0, none⟩ m cap news (by rw [h4]; exact hl) (fun j u hu => by rw [Addr.add_mid, Nat.zero_add]; exact sl_cell hs j u hu) (by omega) (by omega) (growslice_fits (by omega) (by rw [h5]; omega))
    simp only [Nat.zero_add] at hr
    obtain ⟨h7, h8⟩ := turn_alloc w.drew (news ++ (Builtin.zeroCells z.cells (grownCap w m 0 64 - m)).toList) 64
    have e1 : (news ++ (Builtin.zeroCells z.cells (grownCap w m 0 64 - m)).toList).toArray = ([] : List Value).toArray ++ news.toArray ++ Builtin.zeroCells z.cells (grownCap w m 0 64 - m) := by simp
    rw [e1] at h7 h8
    have hge := grownCap_ge w m 0 64
    have hcl : (news ++ (Builtin.zeroCells z.cells (grownCap w m 0 64 - m)).toList).length = grownCap w m 0 64 * 2 := by
      have hzc : (Builtin.zeroCells z.cells (grownCap w m 0 64 - m)).toList.length = (grownCap w m 0 64 - m) * 2 := by rw [Array.length_toList, size_zeroCells, h6]
      rw [List.length_append, hzc, hl, ← Nat.add_mul]; congr 1; omega
    have hcm : grownCap w m 0 64 ≤ maxLen := grownCap_le_maxLen w m 0 64 (by unfold maxLen; omega)
    exact g_val _ _ (by simp only [execOp, resolve, invoke, builtin, Sem.run_bind, Sem.run_pure, Result.andThen_ok, List.map_toArray, List.map_cons, List.map_nil, hx, hy, hr]; rfl) (hk _ _ (row_mk (h.tail.drew.new h7 h8) hl hge hcm (by rw [hcl]; exact Nat.le_refl _) (List.take_left' hl)))
end
set_option maxHeartbeats 4000000 in
theorem rput_low {w0 w : World} {R : List HP} {p : Nat} {x y d : Int} {L : List Thg} {i : Int} {s : ByteArray} (hM : Ms w0 w (rb p x y d L :: R)) (hL : L.length ≤ 10000) (hd : 0 ≤ d) (hd2 : d < 1000000) (h : i < 1) : Calls Try.prog 15 #[.pointer (some ⟨p, 0, none⟩), .int .i64 i, .string s] w fun e w' => e = .returned (.int .i64 (bpE x y i s L)) ∧ Ms w0 w' (rb p x y (bpD x y i s L d) (bpL x y i s L) :: R) := by
  obtain ⟨ao, cap, hM⟩ := rb_cut hM
  go_enter Try.func15, Try.ntmps15
  refine wp_seq_k (fun K1 hK1 => ?_)
  refine wl_region ?_
  refine wl_give rfl (g_assign _ (.int .i64 (0)) rfl ?_)
  (try simp only [Act.put, List.setIfInBounds_toArray, List.set_cons_zero, List.set_cons_succ])
  refine wl_nil ?_
  refine hK1 _ _ ?_
  (try clear hK1 K1)
  refine wp_seq_k (fun K2 hK2 => ?_)
  refine wp_seq_k (fun K3 hK3 => ?_)
  refine wl_region ?_
  refine wl_give rfl (g_move _ (.int .i64 (i)) rfl ?_)
  (try simp only [Act.put, List.setIfInBounds_toArray, List.set_cons_zero, List.set_cons_succ])
  refine wl_give rfl (g_ilss 3 _ _ .i64 (i) (1) true rfl rfl (decide_eq_true h) ?_)
  (try simp only [Act.put, List.setIfInBounds_toArray, List.set_cons_zero, List.set_cons_succ])
  refine wl_nil ?_
  refine hK3 _ _ ?_
  (try clear hK3 K3)
  refine wp_cond_true rfl ?_
  refine wp_seq_k (fun K4 hK4 => ?_)
  refine wl_region ?_
  refine wl_give rfl (g_assign _ (.int .i64 (1)) rfl ?_)
  (try simp only [Act.put, List.setIfInBounds_toArray, List.set_cons_zero, List.set_cons_succ])
  refine wl_nil ?_
  refine hK4 _ _ ?_
  (try clear hK4 K4)
  refine wp_ret ?_
  have h9 := rb_mk hM
  have e : bpE x y i s L = 1 := by unfold bpE; rw [if_pos h]
  have hD : bpD x y i s L d = d := by simp [bpD, e]
  have hL2 : bpL x y i s L = L := by simp [bpL, e]
  (try simp only [Exit.then, Exit.inBlock, ↓reduceIte, Nat.reduceEqDiff])
  go_ret
  rw [e, hD, hL2]
  exact ⟨rfl, h9⟩
set_option maxHeartbeats 4000000 in
theorem rput_high {w0 w : World} {R : List HP} {p : Nat} {x y d : Int} {L : List Thg} {i : Int} {s : ByteArray} (hM : Ms w0 w (rb p x y d L :: R)) (hL : L.length ≤ 10000) (hd : 0 ≤ d) (hd2 : d < 1000000) (h : ¬ i < 1) : Calls Try.prog 15 #[.pointer (some ⟨p, 0, none⟩), .int .i64 i, .string s] w fun e w' => e = .returned (.int .i64 (bpE x y i s L)) ∧ Ms w0 w' (rb p x y (bpD x y i s L d) (bpL x y i s L) :: R) := by
  obtain ⟨ao, cap, hM⟩ := rb_cut hM
  go_enter Try.func15, Try.ntmps15
  refine wp_seq_k (fun K1 hK1 => ?_)
  refine wl_region ?_
  refine wl_give rfl (g_assign _ (.int .i64 (0)) rfl ?_)
  (try simp only [Act.put, List.setIfInBounds_toArray, List.set_cons_zero, List.set_cons_succ])
  refine wl_nil ?_
  refine hK1 _ _ ?_
  (try clear hK1 K1)
  refine wp_seq_k (fun K2 hK2 => ?_)
  refine wp_seq_k (fun K3 hK3 => ?_)
  refine wl_region ?_
  refine wl_give rfl (g_move _ (.int .i64 (i)) rfl ?_)
  (try simp only [Act.put, List.setIfInBounds_toArray, List.set_cons_zero, List.set_cons_succ])
  refine wl_give rfl (g_ilss 3 _ _ .i64 (i) (1) false rfl rfl (decide_eq_false h) ?_)
  (try simp only [Act.put, List.setIfInBounds_toArray, List.set_cons_zero, List.set_cons_succ])
  refine wl_nil ?_
  refine hK3 _ _ ?_
  (try clear hK3 K3)
  refine wp_cond_false rfl ?_
  refine wp_skip ?_
  refine hK2 _ _ ?_
  (try clear hK2 K2)
  refine wp_seq_k (fun K4 hK4 => ?_)
  refine wl_region ?_
  refine wl_give rfl (g_assign _ (.int .i64 (0)) rfl ?_)
  (try simp only [Act.put, List.setIfInBounds_toArray, List.set_cons_zero, List.set_cons_succ])
  refine wl_nil ?_
  refine hK4 _ _ ?_
  (try clear hK4 K4)
  refine wp_seq_k (fun K5 hK5 => ?_)
  refine wp_seq_k (fun K6 hK6 => ?_)
  refine wl_region ?_
  refine wl_give rfl (g_assign _ (.int .i64 (0)) rfl ?_)
  (try simp only [Act.put, List.setIfInBounds_toArray, List.set_cons_zero, List.set_cons_succ])
  refine wl_nil ?_
  refine hK6 _ _ ?_
  (try clear hK6 K6)
  refine wp_block ?_
  refine wp_rounds (fun m st wr => ∃ (j : Nat) (t : Nat → Value), st = ⟨#[.pointer (some ⟨p, 0, none⟩), .int .i64 (i), .string (s), undef, undef, undef, .int .i64 (0), .int .i64 ((((ofI i (L.take j)).length : Nat) : Int)), .int .i64 ((j : Nat) : Int), t 9, t 10, t 11, t 12, t 13, t 14, t 15, t 16, t 17, t 18, t 19, t 20, t 21, t 22, t 23, t 24, t 25, t 26, t 27, t 28, t 29, t 30, t 31, t 32, t 33, t 34, t 35, t 36, t 37, t 38, t 39, t 40, t 41, t 42, t 43, t 44, t 45, t 46, t 47, t 48, t 49, t 50, t 51, t 52, t 53, t 54, t 55, t 56, t 57, t 58, t 59, t 60, t 61, t 62, t 63, t 64, t 65, t 66, t 67, t 68, t 69, t 70, t 71, t 72, t 73, t 74, t 75, t 76, t 77, t 78, t 79, t 80, t 81, t 82, t 83, t 84, t 85, t 86, t 87, t 88, t 89, t 90, t 91, t 92, t 93, t 94], []⟩ ∧ j + m = L.length ∧ hasT i s (L.take j) = false ∧ Ms w0 wr (blk (p) ([.int .i64 (x), .int .i64 (y), .int .i64 (d), .slice ao (L.length) (cap)]) 44 :: row 64 2 (.slice ao (L).length cap) ((L).length) (tcs (L)) :: R)) _ ⟨0, (tl [.pointer (some ⟨p, 0, none⟩), .int .i64 (i), .string (s), undef, undef, undef, .int .i64 (0), .int .i64 (0), .int .i64 (0), .int .i64 (i), .bool false, undef, undef, undef, undef, undef, undef, undef, undef, undef, undef, undef, undef, undef, undef, undef, undef, undef, undef, undef, undef, undef, undef, undef, undef, undef, undef, undef, undef, undef, undef, undef, undef, undef, undef, undef, undef, undef, undef, undef, undef, undef, undef, undef, undef, undef, undef, undef, undef, undef, undef, undef, undef, undef, undef, undef, undef, undef, undef, undef, undef, undef, undef, undef, undef, undef, undef, undef, undef, undef, undef, undef, undef, undef, undef, undef, undef, undef, undef, undef, undef, undef, undef, undef, undef]), rfl, Nat.zero_add _, rfl, hM⟩ ?_
  clear hM
  rintro m st wr ⟨j, u, rfl, hj, hno, hM⟩
  by_cases hlt : ((j : Nat) : Int) < ((L.length : Nat) : Int)
  · skip
    have hjl : j < L.length := by omega
    obtain ⟨t, ht⟩ : ∃ t, L[j]? = some t := ⟨_, List.getElem?_eq_getElem hjl⟩
    obtain ⟨g, k, hv, hM⟩ := row_sl (hM.up 1 rfl) (by omega)
    cases hv
    replace hM := hM.up 1 rfl
    have hj1 : Shut (IntKind.i64.wrap (((j : Nat) : Int) + 1) = ((j + 1 : Nat) : Int)) := ⟨by rw [wrap_id _ (by omega) (by omega)]; omega⟩
    replace hM : Ms w0 wr (blk (p) ([.int .i64 (x), .int .i64 (y), .int .i64 (d), .slice (some ⟨g, 0, none⟩) (L.length) (cap)]) 44 :: sl 64 2 g cap (L.length) (tcs L) :: R) := hM
    have htk : L.take (j + 1) = L.take j ++ [t] := by rw [List.take_add_one, ht]; rfl
    have hol : (ofI i (L.take j)).length ≤ L.length := Nat.le_trans (ofI_le i _) (by rw [List.length_take]; omega)
    refine wp_seq_k (fun K7 hK7 => ?_)
    refine wp_seq_k (fun K8 hK8 => ?_)
    refine wl_region ?_
    refine wl_give rfl (g_move _ (.int .i64 (((j : Nat) : Int))) rfl ?_)
    (try simp only [Act.put, List.setIfInBounds_toArray, List.set_cons_zero, List.set_cons_succ])
    refine wl_give rfl (g_move _ (.pointer (some ⟨p, 0, none⟩)) rfl ?_)
    (try simp only [Act.put, List.setIfInBounds_toArray, List.set_cons_zero, List.set_cons_succ])
    refine wl_give rfl (g_nil _ ⟨p, 0, none⟩ rfl ?_)
    (try simp only [Act.put, List.setIfInBounds_toArray, List.set_cons_zero, List.set_cons_succ])
    refine wl_give rfl (g_fa 44 _ (p) (0) (3) 3 rfl (fa44_3 _ _ _) ?_)
    (try simp only [Act.put, List.setIfInBounds_toArray, List.set_cons_zero, List.set_cons_succ])
    refine wl_give rfl (g_ld1 42 _ (p) 3 _ rfl (ld42 _ _ _ _ ((hM.get 0 rfl).cell 3 _ rfl)) ?_)
    (try simp only [Act.put, List.setIfInBounds_toArray, List.set_cons_zero, List.set_cons_succ])
    refine wl_give rfl (g_len _ 42 64 ((some ⟨g, 0, none⟩)) (L.length) (cap) (((L.length : Nat) : Int)) Try.underlying42 rfl rfl ?_)
    (try simp only [Act.put, List.setIfInBounds_toArray, List.set_cons_zero, List.set_cons_succ])
    refine wl_give rfl (g_ilss 3 _ _ .i64 (((j : Nat) : Int)) (((L.length : Nat) : Int)) true rfl rfl (decide_eq_true hlt) ?_)
    (try simp only [Act.put, List.setIfInBounds_toArray, List.set_cons_zero, List.set_cons_succ])
    refine wl_nil ?_
    refine hK8 _ _ ?_
    (try clear hK8 K8)
    refine wp_cond_true rfl ?_
    refine wp_skip ?_
    refine hK7 _ _ ?_
    (try clear hK7 K7)
    refine wp_seq_k (fun K9 hK9 => ?_)
    refine wp_block ?_
    refine wp_seq_k (fun K10 hK10 => ?_)
    by_cases h1 : t.1 = i
    · by_cases h2 : t.2 = s
      · skip
        refine wp_seq_k (fun K11 hK11 => ?_)
        refine wl_region ?_
        refine wl_give rfl (g_move _ (.pointer (some ⟨p, 0, none⟩)) rfl ?_)
        (try simp only [Act.put, List.setIfInBounds_toArray, List.set_cons_zero, List.set_cons_succ])
        refine wl_give rfl (g_nil _ ⟨p, 0, none⟩ rfl ?_)
        (try simp only [Act.put, List.setIfInBounds_toArray, List.set_cons_zero, List.set_cons_succ])
        refine wl_give rfl (g_fa 44 _ (p) (0) (3) 3 rfl (fa44_3 _ _ _) ?_)
        (try simp only [Act.put, List.setIfInBounds_toArray, List.set_cons_zero, List.set_cons_succ])
        refine wl_give rfl (g_ld1 42 _ (p) 3 _ rfl (ld42 _ _ _ _ ((hM.get 0 rfl).cell 3 _ rfl)) ?_)
        (try simp only [Act.put, List.setIfInBounds_toArray, List.set_cons_zero, List.set_cons_succ])
        refine wl_give rfl (g_move _ (.int .i64 (((j : Nat) : Int))) rfl ?_)
        (try simp only [Act.put, List.setIfInBounds_toArray, List.set_cons_zero, List.set_cons_succ])
        refine wl_give rfl (g_ix _ _ 42 64 2 Try.underlying42 szof64 g 0 L.length cap j (0 + j * 2) _ rfl rfl rfl hjl rfl ?_)
        (try simp only [Act.put, List.setIfInBounds_toArray, List.set_cons_zero, List.set_cons_succ])
        refine wl_give rfl (g_fa 64 _ g (0 + j * 2) (0 + j * 2) 0 rfl (fa64_0 _ _ _) ?_)
        (try simp only [Act.put, List.setIfInBounds_toArray, List.set_cons_zero, List.set_cons_succ])
        refine wl_give rfl (g_ld1 3 _ (g) (0 + j * 2) _ rfl (ld3 _ _ _ _ (by rw [Nat.zero_add]; exact sl_cell (show Ms w0 _ (sl 64 2 g cap (L.length) (tcs L) :: blk (p) ([.int .i64 (x), .int .i64 (y), .int .i64 (d), .slice (some ⟨g, 0, none⟩) (L.length) (cap)]) 44 :: R) from (hM.up 1 rfl)) _ _ (tcs_at ht).1)) ?_)
        (try simp only [Act.put, List.setIfInBounds_toArray, List.set_cons_zero, List.set_cons_succ])
        refine wl_give rfl (g_move _ (.int .i64 (i)) rfl ?_)
        (try simp only [Act.put, List.setIfInBounds_toArray, List.set_cons_zero, List.set_cons_succ])
        refine wl_give rfl (g_ieq 3 _ _ .i64 (t.1) (i) true rfl rfl (decide_eq_true h1) ?_)
        (try simp only [Act.put, List.setIfInBounds_toArray, List.set_cons_zero, List.set_cons_succ])
        refine wl_give rfl (g_move _ (.bool true) rfl ?_)
        (try simp only [Act.put, List.setIfInBounds_toArray, List.set_cons_zero, List.set_cons_succ])
        refine wl_give rfl (g_move _ (.pointer (some ⟨p, 0, none⟩)) rfl ?_)
        (try simp only [Act.put, List.setIfInBounds_toArray, List.set_cons_zero, List.set_cons_succ])
        refine wl_give rfl (g_nil _ ⟨p, 0, none⟩ rfl ?_)
        (try simp only [Act.put, List.setIfInBounds_toArray, List.set_cons_zero, List.set_cons_succ])
        refine wl_give rfl (g_fa 44 _ (p) (0) (3) 3 rfl (fa44_3 _ _ _) ?_)
        (try simp only [Act.put, List.setIfInBounds_toArray, List.set_cons_zero, List.set_cons_succ])
        refine wl_give rfl (g_ld1 42 _ (p) 3 _ rfl (ld42 _ _ _ _ ((hM.get 0 rfl).cell 3 _ rfl)) ?_)
        (try simp only [Act.put, List.setIfInBounds_toArray, List.set_cons_zero, List.set_cons_succ])
        refine wl_give rfl (g_move _ (.int .i64 (((j : Nat) : Int))) rfl ?_)
        (try simp only [Act.put, List.setIfInBounds_toArray, List.set_cons_zero, List.set_cons_succ])
        refine wl_give rfl (g_ix _ _ 42 64 2 Try.underlying42 szof64 g 0 L.length cap j (0 + j * 2) _ rfl rfl rfl hjl rfl ?_)
        (try simp only [Act.put, List.setIfInBounds_toArray, List.set_cons_zero, List.set_cons_succ])
        refine wl_give rfl (g_fa 64 _ g (0 + j * 2) (0 + j * 2 + 1) 1 rfl (fa64_1 _ _ _) ?_)
        (try simp only [Act.put, List.setIfInBounds_toArray, List.set_cons_zero, List.set_cons_succ])
        refine wl_give rfl (g_ld1 9 _ (g) (0 + j * 2 + 1) _ rfl (ld9 _ _ _ _ (by rw [Nat.zero_add]; exact sl_cell (show Ms w0 _ (sl 64 2 g cap (L.length) (tcs L) :: blk (p) ([.int .i64 (x), .int .i64 (y), .int .i64 (d), .slice (some ⟨g, 0, none⟩) (L.length) (cap)]) 44 :: R) from (hM.up 1 rfl)) _ _ (tcs_at ht).2)) ?_)
        (try simp only [Act.put, List.setIfInBounds_toArray, List.set_cons_zero, List.set_cons_succ])
        refine wl_give rfl (g_move _ (.string (s)) rfl ?_)
        (try simp only [Act.put, List.setIfInBounds_toArray, List.set_cons_zero, List.set_cons_succ])
        refine wl_give rfl (g_steq 9 _ _ (t.2) (s) true rfl rfl (decide_eq_true h2) ?_)
        (try simp only [Act.put, List.setIfInBounds_toArray, List.set_cons_zero, List.set_cons_succ])
        refine wl_give rfl (g_pickt _ _ _ (.bool true) rfl rfl ?_)
        (try simp only [Act.put, List.setIfInBounds_toArray, List.set_cons_zero, List.set_cons_succ])
        refine wl_nil ?_
        refine hK11 _ _ ?_
        (try clear hK11 K11)
        refine wp_cond_true rfl ?_
        refine wp_seq_k (fun K12 hK12 => ?_)
        refine wl_region ?_
        refine wl_give rfl (g_assign _ (.int .i64 (11)) rfl ?_)
        (try simp only [Act.put, List.setIfInBounds_toArray, List.set_cons_zero, List.set_cons_succ])
        refine wl_nil ?_
        refine hK12 _ _ ?_
        (try clear hK12 K12)
        refine wp_ret ?_
        have hyes : hasT i s L = true := hasT_iff.2 (by rw [← h1, ← h2]; exact List.mem_of_getElem? ht)
        have h9 := rb_mk ((sl_row ((hM.up 0 rfl).up 1 rfl)).up 1 rfl)
        have e : bpE x y i s L = 11 := by unfold bpE; rw [if_neg h, if_pos hyes]
        have hD : bpD x y i s L d = d := by simp [bpD, e]
        have hL2 : bpL x y i s L = L := by simp [bpL, e]
        (try simp only [Exit.then, Exit.inBlock, ↓reduceIte, Nat.reduceEqDiff])
        go_ret
        rw [e, hD, hL2]
        exact ⟨rfl, h9⟩
      · have hof : ofI i (L.take (j + 1)) = ofI i (L.take j) ++ [t.2] := by rw [htk, ofI_snoc, if_pos h1]
        refine wp_seq_k (fun K13 hK13 => ?_)
        refine wl_region ?_
        refine wl_give rfl (g_move _ (.pointer (some ⟨p, 0, none⟩)) rfl ?_)
        (try simp only [Act.put, List.setIfInBounds_toArray, List.set_cons_zero, List.set_cons_succ])
        refine wl_give rfl (g_nil _ ⟨p, 0, none⟩ rfl ?_)
        (try simp only [Act.put, List.setIfInBounds_toArray, List.set_cons_zero, List.set_cons_succ])
        refine wl_give rfl (g_fa 44 _ (p) (0) (3) 3 rfl (fa44_3 _ _ _) ?_)
        (try simp only [Act.put, List.setIfInBounds_toArray, List.set_cons_zero, List.set_cons_succ])
        refine wl_give rfl (g_ld1 42 _ (p) 3 _ rfl (ld42 _ _ _ _ ((hM.get 0 rfl).cell 3 _ rfl)) ?_)
        (try simp only [Act.put, List.setIfInBounds_toArray, List.set_cons_zero, List.set_cons_succ])
        refine wl_give rfl (g_move _ (.int .i64 (((j : Nat) : Int))) rfl ?_)
        (try simp only [Act.put, List.setIfInBounds_toArray, List.set_cons_zero, List.set_cons_succ])
        refine wl_give rfl (g_ix _ _ 42 64 2 Try.underlying42 szof64 g 0 L.length cap j (0 + j * 2) _ rfl rfl rfl hjl rfl ?_)
        (try simp only [Act.put, List.setIfInBounds_toArray, List.set_cons_zero, List.set_cons_succ])
        refine wl_give rfl (g_fa 64 _ g (0 + j * 2) (0 + j * 2) 0 rfl (fa64_0 _ _ _) ?_)
        (try simp only [Act.put, List.setIfInBounds_toArray, List.set_cons_zero, List.set_cons_succ])
        refine wl_give rfl (g_ld1 3 _ (g) (0 + j * 2) _ rfl (ld3 _ _ _ _ (by rw [Nat.zero_add]; exact sl_cell (show Ms w0 _ (sl 64 2 g cap (L.length) (tcs L) :: blk (p) ([.int .i64 (x), .int .i64 (y), .int .i64 (d), .slice (some ⟨g, 0, none⟩) (L.length) (cap)]) 44 :: R) from (hM.up 1 rfl)) _ _ (tcs_at ht).1)) ?_)
        (try simp only [Act.put, List.setIfInBounds_toArray, List.set_cons_zero, List.set_cons_succ])
        refine wl_give rfl (g_move _ (.int .i64 (i)) rfl ?_)
        (try simp only [Act.put, List.setIfInBounds_toArray, List.set_cons_zero, List.set_cons_succ])
        refine wl_give rfl (g_ieq 3 _ _ .i64 (t.1) (i) true rfl rfl (decide_eq_true h1) ?_)
        (try simp only [Act.put, List.setIfInBounds_toArray, List.set_cons_zero, List.set_cons_succ])
        refine wl_give rfl (g_move _ (.bool true) rfl ?_)
        (try simp only [Act.put, List.setIfInBounds_toArray, List.set_cons_zero, List.set_cons_succ])
        refine wl_give rfl (g_move _ (.pointer (some ⟨p, 0, none⟩)) rfl ?_)
        (try simp only [Act.put, List.setIfInBounds_toArray, List.set_cons_zero, List.set_cons_succ])
        refine wl_give rfl (g_nil _ ⟨p, 0, none⟩ rfl ?_)
        (try simp only [Act.put, List.setIfInBounds_toArray, List.set_cons_zero, List.set_cons_succ])
        refine wl_give rfl (g_fa 44 _ (p) (0) (3) 3 rfl (fa44_3 _ _ _) ?_)
        (try simp only [Act.put, List.setIfInBounds_toArray, List.set_cons_zero, List.set_cons_succ])
        refine wl_give rfl (g_ld1 42 _ (p) 3 _ rfl (ld42 _ _ _ _ ((hM.get 0 rfl).cell 3 _ rfl)) ?_)
        (try simp only [Act.put, List.setIfInBounds_toArray, List.set_cons_zero, List.set_cons_succ])
        refine wl_give rfl (g_move _ (.int .i64 (((j : Nat) : Int))) rfl ?_)
        (try simp only [Act.put, List.setIfInBounds_toArray, List.set_cons_zero, List.set_cons_succ])
        refine wl_give rfl (g_ix _ _ 42 64 2 Try.underlying42 szof64 g 0 L.length cap j (0 + j * 2) _ rfl rfl rfl hjl rfl ?_)
        (try simp only [Act.put, List.setIfInBounds_toArray, List.set_cons_zero, List.set_cons_succ])
        refine wl_give rfl (g_fa 64 _ g (0 + j * 2) (0 + j * 2 + 1) 1 rfl (fa64_1 _ _ _) ?_)
        (try simp only [Act.put, List.setIfInBounds_toArray, List.set_cons_zero, List.set_cons_succ])
        refine wl_give rfl (g_ld1 9 _ (g) (0 + j * 2 + 1) _ rfl (ld9 _ _ _ _ (by rw [Nat.zero_add]; exact sl_cell (show Ms w0 _ (sl 64 2 g cap (L.length) (tcs L) :: blk (p) ([.int .i64 (x), .int .i64 (y), .int .i64 (d), .slice (some ⟨g, 0, none⟩) (L.length) (cap)]) 44 :: R) from (hM.up 1 rfl)) _ _ (tcs_at ht).2)) ?_)
        (try simp only [Act.put, List.setIfInBounds_toArray, List.set_cons_zero, List.set_cons_succ])
        refine wl_give rfl (g_move _ (.string (s)) rfl ?_)
        (try simp only [Act.put, List.setIfInBounds_toArray, List.set_cons_zero, List.set_cons_succ])
        refine wl_give rfl (g_steq 9 _ _ (t.2) (s) false rfl rfl (decide_eq_false h2) ?_)
        (try simp only [Act.put, List.setIfInBounds_toArray, List.set_cons_zero, List.set_cons_succ])
        refine wl_give rfl (g_pickt _ _ _ (.bool false) rfl rfl ?_)
        (try simp only [Act.put, List.setIfInBounds_toArray, List.set_cons_zero, List.set_cons_succ])
        refine wl_nil ?_
        refine hK13 _ _ ?_
        (try clear hK13 K13)
        refine wp_cond_false rfl ?_
        refine wp_skip ?_
        refine hK10 _ _ ?_
        (try clear hK10 K10)
        refine wp_seq_k (fun K14 hK14 => ?_)
        refine wl_region ?_
        refine wl_give rfl (g_move _ (.pointer (some ⟨p, 0, none⟩)) rfl ?_)
        (try simp only [Act.put, List.setIfInBounds_toArray, List.set_cons_zero, List.set_cons_succ])
        refine wl_give rfl (g_nil _ ⟨p, 0, none⟩ rfl ?_)
        (try simp only [Act.put, List.setIfInBounds_toArray, List.set_cons_zero, List.set_cons_succ])
        refine wl_give rfl (g_fa 44 _ (p) (0) (3) 3 rfl (fa44_3 _ _ _) ?_)
        (try simp only [Act.put, List.setIfInBounds_toArray, List.set_cons_zero, List.set_cons_succ])
        refine wl_give rfl (g_ld1 42 _ (p) 3 _ rfl (ld42 _ _ _ _ ((hM.get 0 rfl).cell 3 _ rfl)) ?_)
        (try simp only [Act.put, List.setIfInBounds_toArray, List.set_cons_zero, List.set_cons_succ])
        refine wl_give rfl (g_move _ (.int .i64 (((j : Nat) : Int))) rfl ?_)
        (try simp only [Act.put, List.setIfInBounds_toArray, List.set_cons_zero, List.set_cons_succ])
        refine wl_give rfl (g_ix _ _ 42 64 2 Try.underlying42 szof64 g 0 L.length cap j (0 + j * 2) _ rfl rfl rfl hjl rfl ?_)
        (try simp only [Act.put, List.setIfInBounds_toArray, List.set_cons_zero, List.set_cons_succ])
        refine wl_give rfl (g_fa 64 _ g (0 + j * 2) (0 + j * 2) 0 rfl (fa64_0 _ _ _) ?_)
        (try simp only [Act.put, List.setIfInBounds_toArray, List.set_cons_zero, List.set_cons_succ])
        refine wl_give rfl (g_ld1 3 _ (g) (0 + j * 2) _ rfl (ld3 _ _ _ _ (by rw [Nat.zero_add]; exact sl_cell (show Ms w0 _ (sl 64 2 g cap (L.length) (tcs L) :: blk (p) ([.int .i64 (x), .int .i64 (y), .int .i64 (d), .slice (some ⟨g, 0, none⟩) (L.length) (cap)]) 44 :: R) from (hM.up 1 rfl)) _ _ (tcs_at ht).1)) ?_)
        (try simp only [Act.put, List.setIfInBounds_toArray, List.set_cons_zero, List.set_cons_succ])
        refine wl_give rfl (g_move _ (.int .i64 (i)) rfl ?_)
        (try simp only [Act.put, List.setIfInBounds_toArray, List.set_cons_zero, List.set_cons_succ])
        refine wl_give rfl (g_ieq 3 _ _ .i64 (t.1) (i) true rfl rfl (decide_eq_true h1) ?_)
        (try simp only [Act.put, List.setIfInBounds_toArray, List.set_cons_zero, List.set_cons_succ])
        refine wl_nil ?_
        refine hK14 _ _ ?_
        (try clear hK14 K14)
        refine wp_cond_true rfl ?_
        refine wl_region ?_
        refine wl_give rfl (g_move _ (.int .i64 ((((ofI i (L.take j)).length : Nat) : Int))) rfl ?_)
        (try simp only [Act.put, List.setIfInBounds_toArray, List.set_cons_zero, List.set_cons_succ])
        refine wl_give rfl (g_ia 3 _ _ .i64 ((((ofI i (L.take j)).length : Nat) : Int)) (1) ((((ofI i (L.take (j + 1))).length : Nat) : Int)) rfl rfl (by rw [hof, List.length_append, wrap_id _ (by omega) (by omega)]; rfl) ?_)
        (try simp only [Act.put, List.setIfInBounds_toArray, List.set_cons_zero, List.set_cons_succ])
        refine wl_give rfl (g_assign _ (.int .i64 ((((ofI i (L.take (j + 1))).length : Nat) : Int))) rfl ?_)
        (try simp only [Act.put, List.setIfInBounds_toArray, List.set_cons_zero, List.set_cons_succ])
        refine wl_nil ?_
        refine hK9 _ _ ?_
        (try clear hK9 K9)
        refine wl_region ?_
        refine wl_give rfl (g_move _ (.int .i64 (((j : Nat) : Int))) rfl ?_)
        (try simp only [Act.put, List.setIfInBounds_toArray, List.set_cons_zero, List.set_cons_succ])
        refine wl_give rfl (g_ia 3 _ _ .i64 (((j : Nat) : Int)) (1) (((j + 1 : Nat) : Int)) rfl rfl (hj1.out) ?_)
        (try simp only [Act.put, List.setIfInBounds_toArray, List.set_cons_zero, List.set_cons_succ])
        refine wl_give rfl (g_assign _ (.int .i64 (((j + 1 : Nat) : Int))) rfl ?_)
        (try simp only [Act.put, List.setIfInBounds_toArray, List.set_cons_zero, List.set_cons_succ])
        refine wl_nil ?_
        (try simp only [Exit.then, Exit.inBlock, ↓reduceIte, Nat.reduceEqDiff])
        have h9 := (sl_row ((hM.up 0 rfl).up 1 rfl)).up 1 rfl
        exact ⟨m - 1, by omega, j + 1, (tl [.pointer (some ⟨p, 0, none⟩), .int .i64 (i), .string (s), undef, undef, undef, .int .i64 (0), .int .i64 ((((ofI i (L.take (j + 1))).length : Nat) : Int)), .int .i64 (((j + 1 : Nat) : Int)), u 9, u 10, .int .i64 (((j : Nat) : Int)), .pointer (some ⟨p, 0, none⟩), .pointer (some ⟨p, 0, none⟩), .pointer (some ⟨p, 3, none⟩), .slice (some ⟨g, 0, none⟩) (L.length) (cap), .int .i64 (((L.length : Nat) : Int)), .bool true, .int .i64 (((j : Nat) : Int)), .int .i64 (((j + 1 : Nat) : Int)), .pointer (some ⟨p, 0, none⟩), .pointer (some ⟨p, 0, none⟩), .pointer (some ⟨p, 3, none⟩), .slice (some ⟨g, 0, none⟩) (L.length) (cap), .int .i64 (((j : Nat) : Int)), .pointer (some ⟨g, 0 + j * 2, none⟩), .pointer (some ⟨g, 0 + j * 2, none⟩), .int .i64 (t.1), .int .i64 (i), .bool true, .bool true, .pointer (some ⟨p, 0, none⟩), .pointer (some ⟨p, 0, none⟩), .pointer (some ⟨p, 3, none⟩), .slice (some ⟨g, 0, none⟩) (L.length) (cap), .int .i64 (((j : Nat) : Int)), .pointer (some ⟨g, 0 + j * 2, none⟩), .pointer (some ⟨g, 0 + j * 2 + 1, none⟩), .string (t.2), .string (s), .bool false, .bool false, .pointer (some ⟨p, 0, none⟩), .pointer (some ⟨p, 0, none⟩), .pointer (some ⟨p, 3, none⟩), .slice (some ⟨g, 0, none⟩) (L.length) (cap), .int .i64 (((j : Nat) : Int)), .pointer (some ⟨g, 0 + j * 2, none⟩), .pointer (some ⟨g, 0 + j * 2, none⟩), .int .i64 (t.1), .int .i64 (i), .bool true, .int .i64 ((((ofI i (L.take j)).length : Nat) : Int)), .int .i64 ((((ofI i (L.take (j + 1))).length : Nat) : Int)), u 54, u 55, u 56, u 57, u 58, u 59, u 60, u 61, u 62, u 63, u 64, u 65, u 66, u 67, u 68, u 69, u 70, u 71, u 72, u 73, u 74, u 75, u 76, u 77, u 78, u 79, u 80, u 81, u 82, u 83, u 84, u 85, u 86, u 87, u 88, u 89, u 90, u 91, u 92, u 93, u 94]), rfl, by omega, by rw [htk]; unfold hasT at *; rw [List.any_append, hno]; simp [h2], h9⟩
    · have hof : ofI i (L.take (j + 1)) = ofI i (L.take j) := by rw [htk, ofI_snoc, if_neg h1, List.append_nil]
      rw [← hof]
      refine wp_seq_k (fun K15 hK15 => ?_)
      refine wl_region ?_
      refine wl_give rfl (g_move _ (.pointer (some ⟨p, 0, none⟩)) rfl ?_)
      (try simp only [Act.put, List.setIfInBounds_toArray, List.set_cons_zero, List.set_cons_succ])
      refine wl_give rfl (g_nil _ ⟨p, 0, none⟩ rfl ?_)
      (try simp only [Act.put, List.setIfInBounds_toArray, List.set_cons_zero, List.set_cons_succ])
      refine wl_give rfl (g_fa 44 _ (p) (0) (3) 3 rfl (fa44_3 _ _ _) ?_)
      (try simp only [Act.put, List.setIfInBounds_toArray, List.set_cons_zero, List.set_cons_succ])
      refine wl_give rfl (g_ld1 42 _ (p) 3 _ rfl (ld42 _ _ _ _ ((hM.get 0 rfl).cell 3 _ rfl)) ?_)
      (try simp only [Act.put, List.setIfInBounds_toArray, List.set_cons_zero, List.set_cons_succ])
      refine wl_give rfl (g_move _ (.int .i64 (((j : Nat) : Int))) rfl ?_)
      (try simp only [Act.put, List.setIfInBounds_toArray, List.set_cons_zero, List.set_cons_succ])
      refine wl_give rfl (g_ix _ _ 42 64 2 Try.underlying42 szof64 g 0 L.length cap j (0 + j * 2) _ rfl rfl rfl hjl rfl ?_)
      (try simp only [Act.put, List.setIfInBounds_toArray, List.set_cons_zero, List.set_cons_succ])
      refine wl_give rfl (g_fa 64 _ g (0 + j * 2) (0 + j * 2) 0 rfl (fa64_0 _ _ _) ?_)
      (try simp only [Act.put, List.setIfInBounds_toArray, List.set_cons_zero, List.set_cons_succ])
      refine wl_give rfl (g_ld1 3 _ (g) (0 + j * 2) _ rfl (ld3 _ _ _ _ (by rw [Nat.zero_add]; exact sl_cell (show Ms w0 _ (sl 64 2 g cap (L.length) (tcs L) :: blk (p) ([.int .i64 (x), .int .i64 (y), .int .i64 (d), .slice (some ⟨g, 0, none⟩) (L.length) (cap)]) 44 :: R) from (hM.up 1 rfl)) _ _ (tcs_at ht).1)) ?_)
      (try simp only [Act.put, List.setIfInBounds_toArray, List.set_cons_zero, List.set_cons_succ])
      refine wl_give rfl (g_move _ (.int .i64 (i)) rfl ?_)
      (try simp only [Act.put, List.setIfInBounds_toArray, List.set_cons_zero, List.set_cons_succ])
      refine wl_give rfl (g_ieq 3 _ _ .i64 (t.1) (i) false rfl rfl (decide_eq_false h1) ?_)
      (try simp only [Act.put, List.setIfInBounds_toArray, List.set_cons_zero, List.set_cons_succ])
      refine wl_give rfl (g_move _ (.bool false) rfl ?_)
      (try simp only [Act.put, List.setIfInBounds_toArray, List.set_cons_zero, List.set_cons_succ])
      refine wl_skip rfl ?_
      (try simp only [Act.put, List.setIfInBounds_toArray, List.set_cons_zero, List.set_cons_succ])
      refine wl_skip rfl ?_
      (try simp only [Act.put, List.setIfInBounds_toArray, List.set_cons_zero, List.set_cons_succ])
      refine wl_skip rfl ?_
      (try simp only [Act.put, List.setIfInBounds_toArray, List.set_cons_zero, List.set_cons_succ])
      refine wl_skip rfl ?_
      (try simp only [Act.put, List.setIfInBounds_toArray, List.set_cons_zero, List.set_cons_succ])
      refine wl_skip rfl ?_
      (try simp only [Act.put, List.setIfInBounds_toArray, List.set_cons_zero, List.set_cons_succ])
      refine wl_skip rfl ?_
      (try simp only [Act.put, List.setIfInBounds_toArray, List.set_cons_zero, List.set_cons_succ])
      refine wl_skip rfl ?_
      (try simp only [Act.put, List.setIfInBounds_toArray, List.set_cons_zero, List.set_cons_succ])
      refine wl_skip rfl ?_
      (try simp only [Act.put, List.setIfInBounds_toArray, List.set_cons_zero, List.set_cons_succ])
      refine wl_skip rfl ?_
      (try simp only [Act.put, List.setIfInBounds_toArray, List.set_cons_zero, List.set_cons_succ])
      refine wl_skip rfl ?_
      (try simp only [Act.put, List.setIfInBounds_toArray, List.set_cons_zero, List.set_cons_succ])
      refine wl_give rfl (g_pickf _ _ _ (.bool false) rfl rfl ?_)
      (try simp only [Act.put, List.setIfInBounds_toArray, List.set_cons_zero, List.set_cons_succ])
      refine wl_nil ?_
      refine hK15 _ _ ?_
      (try clear hK15 K15)
      refine wp_cond_false rfl ?_
      refine wp_skip ?_
      refine hK10 _ _ ?_
      (try clear hK10 K10)
      refine wp_seq_k (fun K16 hK16 => ?_)
      refine wl_region ?_
      refine wl_give rfl (g_move _ (.pointer (some ⟨p, 0, none⟩)) rfl ?_)
      (try simp only [Act.put, List.setIfInBounds_toArray, List.set_cons_zero, List.set_cons_succ])
      refine wl_give rfl (g_nil _ ⟨p, 0, none⟩ rfl ?_)
      (try simp only [Act.put, List.setIfInBounds_toArray, List.set_cons_zero, List.set_cons_succ])
      refine wl_give rfl (g_fa 44 _ (p) (0) (3) 3 rfl (fa44_3 _ _ _) ?_)
      (try simp only [Act.put, List.setIfInBounds_toArray, List.set_cons_zero, List.set_cons_succ])
      refine wl_give rfl (g_ld1 42 _ (p) 3 _ rfl (ld42 _ _ _ _ ((hM.get 0 rfl).cell 3 _ rfl)) ?_)
      (try simp only [Act.put, List.setIfInBounds_toArray, List.set_cons_zero, List.set_cons_succ])
      refine wl_give rfl (g_move _ (.int .i64 (((j : Nat) : Int))) rfl ?_)
      (try simp only [Act.put, List.setIfInBounds_toArray, List.set_cons_zero, List.set_cons_succ])
      refine wl_give rfl (g_ix _ _ 42 64 2 Try.underlying42 szof64 g 0 L.length cap j (0 + j * 2) _ rfl rfl rfl hjl rfl ?_)
      (try simp only [Act.put, List.setIfInBounds_toArray, List.set_cons_zero, List.set_cons_succ])
      refine wl_give rfl (g_fa 64 _ g (0 + j * 2) (0 + j * 2) 0 rfl (fa64_0 _ _ _) ?_)
      (try simp only [Act.put, List.setIfInBounds_toArray, List.set_cons_zero, List.set_cons_succ])
      refine wl_give rfl (g_ld1 3 _ (g) (0 + j * 2) _ rfl (ld3 _ _ _ _ (by rw [Nat.zero_add]; exact sl_cell (show Ms w0 _ (sl 64 2 g cap (L.length) (tcs L) :: blk (p) ([.int .i64 (x), .int .i64 (y), .int .i64 (d), .slice (some ⟨g, 0, none⟩) (L.length) (cap)]) 44 :: R) from (hM.up 1 rfl)) _ _ (tcs_at ht).1)) ?_)
      (try simp only [Act.put, List.setIfInBounds_toArray, List.set_cons_zero, List.set_cons_succ])
      refine wl_give rfl (g_move _ (.int .i64 (i)) rfl ?_)
      (try simp only [Act.put, List.setIfInBounds_toArray, List.set_cons_zero, List.set_cons_succ])
      refine wl_give rfl (g_ieq 3 _ _ .i64 (t.1) (i) false rfl rfl (decide_eq_false h1) ?_)
      (try simp only [Act.put, List.setIfInBounds_toArray, List.set_cons_zero, List.set_cons_succ])
      refine wl_nil ?_
      refine hK16 _ _ ?_
      (try clear hK16 K16)
      refine wp_cond_false rfl ?_
      refine wp_skip ?_
      refine hK9 _ _ ?_
      (try clear hK9 K9)
      refine wl_region ?_
      refine wl_give rfl (g_move _ (.int .i64 (((j : Nat) : Int))) rfl ?_)
      (try simp only [Act.put, List.setIfInBounds_toArray, List.set_cons_zero, List.set_cons_succ])
      refine wl_give rfl (g_ia 3 _ _ .i64 (((j : Nat) : Int)) (1) (((j + 1 : Nat) : Int)) rfl rfl (hj1.out) ?_)
      (try simp only [Act.put, List.setIfInBounds_toArray, List.set_cons_zero, List.set_cons_succ])
      refine wl_give rfl (g_assign _ (.int .i64 (((j + 1 : Nat) : Int))) rfl ?_)
      (try simp only [Act.put, List.setIfInBounds_toArray, List.set_cons_zero, List.set_cons_succ])
      refine wl_nil ?_
      (try simp only [Exit.then, Exit.inBlock, ↓reduceIte, Nat.reduceEqDiff])
      have h9 := (sl_row ((hM.up 0 rfl).up 1 rfl)).up 1 rfl
      exact ⟨m - 1, by omega, j + 1, (tl [.pointer (some ⟨p, 0, none⟩), .int .i64 (i), .string (s), undef, undef, undef, .int .i64 (0), .int .i64 ((((ofI i (L.take (j + 1))).length : Nat) : Int)), .int .i64 (((j + 1 : Nat) : Int)), u 9, u 10, .int .i64 (((j : Nat) : Int)), .pointer (some ⟨p, 0, none⟩), .pointer (some ⟨p, 0, none⟩), .pointer (some ⟨p, 3, none⟩), .slice (some ⟨g, 0, none⟩) (L.length) (cap), .int .i64 (((L.length : Nat) : Int)), .bool true, .int .i64 (((j : Nat) : Int)), .int .i64 (((j + 1 : Nat) : Int)), .pointer (some ⟨p, 0, none⟩), .pointer (some ⟨p, 0, none⟩), .pointer (some ⟨p, 3, none⟩), .slice (some ⟨g, 0, none⟩) (L.length) (cap), .int .i64 (((j : Nat) : Int)), .pointer (some ⟨g, 0 + j * 2, none⟩), .pointer (some ⟨g, 0 + j * 2, none⟩), .int .i64 (t.1), .int .i64 (i), .bool false, .bool false, undef, undef, undef, undef, undef, undef, undef, undef, undef, undef, .bool false, .pointer (some ⟨p, 0, none⟩), .pointer (some ⟨p, 0, none⟩), .pointer (some ⟨p, 3, none⟩), .slice (some ⟨g, 0, none⟩) (L.length) (cap), .int .i64 (((j : Nat) : Int)), .pointer (some ⟨g, 0 + j * 2, none⟩), .pointer (some ⟨g, 0 + j * 2, none⟩), .int .i64 (t.1), .int .i64 (i), .bool false, u 52, u 53, u 54, u 55, u 56, u 57, u 58, u 59, u 60, u 61, u 62, u 63, u 64, u 65, u 66, u 67, u 68, u 69, u 70, u 71, u 72, u 73, u 74, u 75, u 76, u 77, u 78, u 79, u 80, u 81, u 82, u 83, u 84, u 85, u 86, u 87, u 88, u 89, u 90, u 91, u 92, u 93, u 94]), rfl, by omega, by rw [htk]; unfold hasT at *; rw [List.any_append, hno]; simp [h1], h9⟩
  · have hjn : j = L.length := by omega
    subst hjn
    rw [List.take_length] at hno
    rw [List.take_length]
    have hol : (ofI i L).length ≤ L.length := ofI_le i L
    have hnh : ¬ hasT i s L = true := by rw [hno]; decide
    refine wp_seq_k (fun K17 hK17 => ?_)
    refine wp_seq_k (fun K18 hK18 => ?_)
    refine wl_region ?_
    refine wl_give rfl (g_move _ (.int .i64 (((L.length : Nat) : Int))) rfl ?_)
    (try simp only [Act.put, List.setIfInBounds_toArray, List.set_cons_zero, List.set_cons_succ])
    refine wl_give rfl (g_move _ (.pointer (some ⟨p, 0, none⟩)) rfl ?_)
    (try simp only [Act.put, List.setIfInBounds_toArray, List.set_cons_zero, List.set_cons_succ])
    refine wl_give rfl (g_nil _ ⟨p, 0, none⟩ rfl ?_)
    (try simp only [Act.put, List.setIfInBounds_toArray, List.set_cons_zero, List.set_cons_succ])
    refine wl_give rfl (g_fa 44 _ (p) (0) (3) 3 rfl (fa44_3 _ _ _) ?_)
    (try simp only [Act.put, List.setIfInBounds_toArray, List.set_cons_zero, List.set_cons_succ])
    refine wl_give rfl (g_ld1 42 _ (p) 3 _ rfl (ld42 _ _ _ _ ((hM.get 0 rfl).cell 3 _ rfl)) ?_)
    (try simp only [Act.put, List.setIfInBounds_toArray, List.set_cons_zero, List.set_cons_succ])
    refine wl_give rfl (g_len _ 42 64 (ao) (L.length) (cap) (((L.length : Nat) : Int)) Try.underlying42 rfl rfl ?_)
    (try simp only [Act.put, List.setIfInBounds_toArray, List.set_cons_zero, List.set_cons_succ])
    refine wl_give rfl (g_ilss 3 _ _ .i64 (((L.length : Nat) : Int)) (((L.length : Nat) : Int)) false rfl rfl (decide_eq_false hlt) ?_)
    (try simp only [Act.put, List.setIfInBounds_toArray, List.set_cons_zero, List.set_cons_succ])
    refine wl_nil ?_
    refine hK18 _ _ ?_
    (try clear hK18 K18)
    refine wp_cond_false rfl ?_
    refine wp_exit ?_
    refine hK5 _ _ ?_
    (try clear hK5 K5)
    refine wp_seq_k (fun K19 hK19 => ?_)
    by_cases h1 : (((ofI i L).length : Nat) : Int) ≥ x
    · skip
      refine wp_seq_k (fun K20 hK20 => ?_)
      refine wp_region_fixed (by kernel_rfl) (by kernel_rfl) [.int .i64 ((((ofI i L).length : Nat) : Int)), .pointer (some ⟨p, 0, none⟩), .pointer (some ⟨p, 0, none⟩), .pointer (some ⟨p, 0, none⟩), .int .i64 (x), .bool true, .bool true, undef, undef, undef, undef, undef, undef, undef, undef, undef, undef, undef, undef, .bool true] (by rfl) (fun wx => Ms w0 wx (blk (p) ([.int .i64 (x), .int .i64 (y), .int .i64 (d), .slice ao (L.length) (cap)]) 44 :: row 64 2 (.slice ao (L).length cap) ((L).length) (tcs (L)) :: R)) hM.drew ?_ ?_
      · simp only [fullL, Act.put, List.setIfInBounds_toArray, List.set_cons_succ, List.set_cons_zero]
        refine ⟨?_, ?_, ?_, ?_, ?_, ?_, ?_, ?_, ?_, ?_, ?_, ?_, ?_, ?_, ?_, ?_, ?_, ?_, ?_, ?_, trivial⟩
        · exact fun wx hM => gw rfl (g_move _ (.int .i64 ((((ofI i L).length : Nat) : Int))) rfl ⟨rfl, hM⟩)
        · exact fun wx hM => gw rfl (g_move _ (.pointer (some ⟨p, 0, none⟩)) rfl ⟨rfl, hM⟩)
        · exact fun wx hM => gw rfl (g_nil _ ⟨p, 0, none⟩ rfl ⟨rfl, hM⟩)
        · exact fun wx hM => gw rfl (g_fa 44 _ (p) (0) (0) 0 rfl (fa44_0 _ _ _) ⟨rfl, hM⟩)
        · exact fun wx hM => gw rfl (g_ld1 3 _ (p) 0 _ rfl (ld3 _ _ _ _ ((hM.get 0 rfl).cell 0 _ rfl)) ⟨rfl, hM⟩)
        · exact fun wx hM => gw rfl (g_igeq 3 _ _ .i64 ((((ofI i L).length : Nat) : Int)) (x) true rfl rfl (decide_eq_true h1) ⟨rfl, hM⟩)
        · exact fun wx hM => gw rfl (g_move _ (.bool true) rfl ⟨rfl, hM⟩)
        · exact fun wx hM => gn rfl ⟨rfl, hM⟩
        · exact fun wx hM => gn rfl ⟨rfl, hM⟩
        · exact fun wx hM => gn rfl ⟨rfl, hM⟩
        · exact fun wx hM => gn rfl ⟨rfl, hM⟩
        · exact fun wx hM => gn rfl ⟨rfl, hM⟩
        · exact fun wx hM => gn rfl ⟨rfl, hM⟩
        · exact fun wx hM => gn rfl ⟨rfl, hM⟩
        · exact fun wx hM => gn rfl ⟨rfl, hM⟩
        · exact fun wx hM => gn rfl ⟨rfl, hM⟩
        · exact fun wx hM => gn rfl ⟨rfl, hM⟩
        · exact fun wx hM => gn rfl ⟨rfl, hM⟩
        · exact fun wx hM => gn rfl ⟨rfl, hM⟩
        · exact fun wx hM => gw rfl (g_pickt _ _ _ (.bool true) rfl rfl ⟨rfl, hM⟩)
      · simp only [fullL, Act.put, List.setIfInBounds_toArray, List.set_cons_succ, List.set_cons_zero]
        intro w21 hM
        refine hK20 _ _ ?_
        (try clear hK20 K20)
        refine wp_cond_true rfl ?_
        refine wp_seq_k (fun K22 hK22 => ?_)
        refine wl_region ?_
        refine wl_give rfl (g_move _ (.pointer (some ⟨p, 0, none⟩)) rfl ?_)
        (try simp only [Act.put, List.setIfInBounds_toArray, List.set_cons_zero, List.set_cons_succ])
        refine wl_give rfl (g_nil _ ⟨p, 0, none⟩ rfl ?_)
        (try simp only [Act.put, List.setIfInBounds_toArray, List.set_cons_zero, List.set_cons_succ])
        refine wl_give rfl (g_fa 44 _ (p) (0) (2) 2 rfl (fa44_2 _ _ _) ?_)
        (try simp only [Act.put, List.setIfInBounds_toArray, List.set_cons_zero, List.set_cons_succ])
        refine wl_give rfl (g_ld1 3 _ (p) 2 _ rfl (ld3 _ _ _ _ ((hM.get 0 rfl).cell 2 _ rfl)) ?_)
        (try simp only [Act.put, List.setIfInBounds_toArray, List.set_cons_zero, List.set_cons_succ])
        refine wl_give rfl (g_ia 3 _ _ .i64 (d) (1) (d + 1) rfl rfl (wrap_id _ (by omega) (by omega)) ?_)
        (try simp only [Act.put, List.setIfInBounds_toArray, List.set_cons_zero, List.set_cons_succ])
        refine wl_give rfl (g_nil _ ⟨p, 0, none⟩ rfl ?_)
        (try simp only [Act.put, List.setIfInBounds_toArray, List.set_cons_zero, List.set_cons_succ])
        refine wl_give rfl (g_fa 44 _ (p) (0) (2) 2 rfl (fa44_2 _ _ _) ?_)
        (try simp only [Act.put, List.setIfInBounds_toArray, List.set_cons_zero, List.set_cons_succ])
        refine wl_give rfl (g_st1 3 _ _ (p) 2 (.int .i64 (d + 1)) _ 44 rfl rfl (hM.get 0 rfl) (show 2 < 4 by decide) rfl rfl size3 ?_)
        intro w23 t_ b_
        replace hM : Ms w0 w23 (blk (p) ([.int .i64 (x), .int .i64 (y), .int .i64 (d + 1), .slice ao (L.length) (cap)]) 44 :: row 64 2 (.slice ao (L).length cap) ((L).length) (tcs (L)) :: R) := hM.put 0 rfl t_ b_
        clear t_ b_
        (try simp only [Act.put, List.setIfInBounds_toArray, List.set_cons_zero, List.set_cons_succ])
        refine wl_nil ?_
        refine hK22 _ _ ?_
        (try clear hK22 K22)
        refine wp_seq_k (fun K24 hK24 => ?_)
        refine wl_region ?_
        refine wl_give rfl (g_assign _ (.int .i64 (4)) rfl ?_)
        (try simp only [Act.put, List.setIfInBounds_toArray, List.set_cons_zero, List.set_cons_succ])
        refine wl_nil ?_
        refine hK24 _ _ ?_
        (try clear hK24 K24)
        refine wp_ret ?_
        have h9 := ((hM.up 1 rfl).up 1 rfl)
        replace h9 := rb_mk h9
        have e : bpE x y i s L = 4 := by unfold bpE; rw [if_neg h, if_neg hnh, if_pos (.inl h1)]
        have hD : bpD x y i s L d = d + 1 := by simp [bpD, e]
        have hL2 : bpL x y i s L = L := by simp [bpL, e]
        (try simp only [Exit.then, Exit.inBlock, ↓reduceIte, Nat.reduceEqDiff])
        go_ret
        rw [e, hD, hL2]
        exact ⟨rfl, h9⟩
    · by_cases h2 : (((ofI i L).length : Nat) : Int) = 0
      · by_cases h3 : (((ivs L).length : Nat) : Int) ≥ y
        · skip
          refine wp_seq_k (fun K25 hK25 => ?_)
          refine wp_region_steps (by kernel_rfl) (by kernel_rfl) [11] [0, 0, 0, 0, 0, 0, 0, 0, 0, 0, 0, 0, 1, 0, 0, 0, 0, 1, 1, 1] [1, 1, 1, 1, 1, 1, 1, 1, 1, 0, 0, 1, 1, 1, 1, 1, 1, 1, 1, 1] (by kernel_rfl) (Pm := Option Addr × Nat) (fun π => [.int .i64 ((((ofI i L).length : Nat) : Int)), .pointer (some ⟨p, 0, none⟩), .pointer (some ⟨p, 0, none⟩), .pointer (some ⟨p, 0, none⟩), .int .i64 (x), .bool false, .bool false, .int .i64 ((((ofI i L).length : Nat) : Int)), .bool true, .bool true, .pointer (some ⟨p, 0, none⟩), .slice π.1 ((ivs L).length) (π.2), .int .i64 ((((ivs L).length : Nat) : Int)), .pointer (some ⟨p, 0, none⟩), .pointer (some ⟨p, 0, none⟩), .pointer (some ⟨p, 1, none⟩), .int .i64 (y), .bool true, .bool true, .bool true]) (fun _ => by rfl) (fun j_ π wx => match j_ with | 0 => Ms w0 wx (blk (p) ([.int .i64 (x), .int .i64 (y), .int .i64 (d), .slice ao (L.length) (cap)]) 44 :: row 64 2 (.slice ao (L).length cap) ((L).length) (tcs (L)) :: R) | _ => Ms w0 wx (row 3 1 (.slice π.1 (ivs L).length π.2) ((ivs L).length) ((ivs L).map encZ) :: blk (p) ([.int .i64 (x), .int .i64 (y), .int .i64 (d), .slice ao (L.length) (cap)]) 44 :: row 64 2 (.slice ao (L).length cap) ((L).length) (tcs (L)) :: R)) (none, 0) hM.drew ?_ ?_ ?_
          · intro j_ k_ o_ hj_ ho_ π wx hM
            rcases j_ with _ | j_
            · obtain rfl := Option.some.inj hj_
              obtain rfl := Option.some.inj ho_
              simp only [fullL, Act.put, List.setIfInBounds_toArray, List.set_cons_succ, List.set_cons_zero]
              replace hM : Ms w0 wx (blk (p) ([.int .i64 (x), .int .i64 (y), .int .i64 (d), .slice ao (L.length) (cap)]) 44 :: row 64 2 (.slice ao (L).length cap) ((L).length) (tcs (L)) :: R) := hM
              exact gw rfl (g_call 22 _ _ [.pointer (some ⟨p, 0, none⟩)] (kf22 _ _) rfl ((rivals_op (show Ms w0 wx (blk (p) ([.int .i64 (x), .int .i64 (y), .int .i64 (d), .slice ao (L.length) (cap)]) 44 :: row 64 2 (.slice ao (L).length cap) ((L).length) (tcs (L)) :: R) from ((hM.up 1 rfl).up 1 rfl)) hL).mono (fun e w' ⟨g_0, g_1, h1_, h2_⟩ => ⟨_, h1_, ⟨(g_0, g_1), rfl, fun i h1 h2 => by rcases i with _ | _ | _ | _ | _ | _ | _ | _ | _ | _ | _ | _ | _ | _ | _ | _ | _ | _ | _ | _ | i <;> first | rfl | trivial | exact absurd rfl h2 | exact absurd h1 (by decide), h2_⟩⟩)))
            · simp at hj_
          · intro i_ o_ ho_ hi_ j_ hd_ hh_ hj_ π wx hM
            simp only [fullL, Act.put, List.setIfInBounds_toArray, List.set_cons_succ, List.set_cons_zero]
            rcases i_ with _ | _ | _ | _ | _ | _ | _ | _ | _ | _ | _ | _ | _ | _ | _ | _ | _ | _ | _ | _ | i_
            · obtain rfl := Option.some.inj ho_
              exact gw rfl (g_move _ (.int .i64 ((((ofI i L).length : Nat) : Int))) rfl ⟨rfl, hM⟩)
            · obtain rfl := Option.some.inj ho_
              exact gw rfl (g_move _ (.pointer (some ⟨p, 0, none⟩)) rfl ⟨rfl, hM⟩)
            · obtain rfl := Option.some.inj ho_
              exact gw rfl (g_nil _ ⟨p, 0, none⟩ rfl ⟨rfl, hM⟩)
            · obtain rfl := Option.some.inj ho_
              exact gw rfl (g_fa 44 _ (p) (0) (0) 0 rfl (fa44_0 _ _ _) ⟨rfl, hM⟩)
            · obtain rfl := Option.some.inj ho_
              rcases j_ with _ | _ | j_
              · replace hM : Ms w0 wx (blk (p) ([.int .i64 (x), .int .i64 (y), .int .i64 (d), .slice ao (L.length) (cap)]) 44 :: row 64 2 (.slice ao (L).length cap) ((L).length) (tcs (L)) :: R) := hM
                exact gw rfl (g_ld1 3 _ (p) 0 _ rfl (ld3 _ _ _ _ ((hM.get 0 rfl).cell 0 _ rfl)) ⟨rfl, hM⟩)
              · replace hM : Ms w0 wx (row 3 1 (.slice π.1 (ivs L).length π.2) ((ivs L).length) ((ivs L).map encZ) :: blk (p) ([.int .i64 (x), .int .i64 (y), .int .i64 (d), .slice ao (L.length) (cap)]) 44 :: row 64 2 (.slice ao (L).length cap) ((L).length) (tcs (L)) :: R) := hM
                exact gw rfl (g_ld1 3 _ (p) 0 _ rfl (ld3 _ _ _ _ ((hM.get 1 rfl).cell 0 _ rfl)) ⟨rfl, hM⟩)
              · exact absurd hj_ (by simp)
            · obtain rfl := Option.some.inj ho_
              exact gw rfl (g_igeq 3 _ _ .i64 ((((ofI i L).length : Nat) : Int)) (x) false rfl rfl (decide_eq_false h1) ⟨rfl, hM⟩)
            · obtain rfl := Option.some.inj ho_
              exact gw rfl (g_move _ (.bool false) rfl ⟨rfl, hM⟩)
            · obtain rfl := Option.some.inj ho_
              exact gw rfl (g_move _ (.int .i64 ((((ofI i L).length : Nat) : Int))) rfl ⟨rfl, hM⟩)
            · obtain rfl := Option.some.inj ho_
              exact gw rfl (g_ieq 3 _ _ .i64 ((((ofI i L).length : Nat) : Int)) (0) true rfl rfl (decide_eq_true h2) ⟨rfl, hM⟩)
            · obtain rfl := Option.some.inj ho_
              exact gw rfl (g_move _ (.bool true) rfl ⟨rfl, hM⟩)
            · obtain rfl := Option.some.inj ho_
              exact gw rfl (g_move _ (.pointer (some ⟨p, 0, none⟩)) rfl ⟨rfl, hM⟩)
            · exact absurd (by decide) hi_
            · obtain rfl := Option.some.inj ho_
              exact gw rfl (g_len _ 39 3 (π.1) ((ivs L).length) (π.2) ((((ivs L).length : Nat) : Int)) Try.underlying39 rfl rfl ⟨rfl, hM⟩)
            · obtain rfl := Option.some.inj ho_
              exact gw rfl (g_move _ (.pointer (some ⟨p, 0, none⟩)) rfl ⟨rfl, hM⟩)
            · obtain rfl := Option.some.inj ho_
              exact gw rfl (g_nil _ ⟨p, 0, none⟩ rfl ⟨rfl, hM⟩)
            · obtain rfl := Option.some.inj ho_
              exact gw rfl (g_fa 44 _ (p) (0) (1) 1 rfl (fa44_1 _ _ _) ⟨rfl, hM⟩)
            · obtain rfl := Option.some.inj ho_
              rcases j_ with _ | _ | j_
              · replace hM : Ms w0 wx (blk (p) ([.int .i64 (x), .int .i64 (y), .int .i64 (d), .slice ao (L.length) (cap)]) 44 :: row 64 2 (.slice ao (L).length cap) ((L).length) (tcs (L)) :: R) := hM
                exact gw rfl (g_ld1 3 _ (p) 1 _ rfl (ld3 _ _ _ _ ((hM.get 0 rfl).cell 1 _ rfl)) ⟨rfl, hM⟩)
              · replace hM : Ms w0 wx (row 3 1 (.slice π.1 (ivs L).length π.2) ((ivs L).length) ((ivs L).map encZ) :: blk (p) ([.int .i64 (x), .int .i64 (y), .int .i64 (d), .slice ao (L.length) (cap)]) 44 :: row 64 2 (.slice ao (L).length cap) ((L).length) (tcs (L)) :: R) := hM
                exact gw rfl (g_ld1 3 _ (p) 1 _ rfl (ld3 _ _ _ _ ((hM.get 1 rfl).cell 1 _ rfl)) ⟨rfl, hM⟩)
              · exact absurd hj_ (by simp)
            · obtain rfl := Option.some.inj ho_
              exact gw rfl (g_igeq 3 _ _ .i64 ((((ivs L).length : Nat) : Int)) (y) true rfl rfl (decide_eq_true h3) ⟨rfl, hM⟩)
            · obtain rfl := Option.some.inj ho_
              exact gw rfl (g_pickt _ _ _ (.bool true) rfl rfl ⟨rfl, hM⟩)
            · obtain rfl := Option.some.inj ho_
              exact gw rfl (g_pickf _ _ _ (.bool true) rfl rfl ⟨rfl, hM⟩)
            · simp at ho_
          · simp only [fullL, Act.put, List.setIfInBounds_toArray, List.set_cons_succ, List.set_cons_zero]
            rintro ⟨o27, p28⟩ w26 hM
            replace hM : Ms w0 w26 (row 3 1 (.slice o27 (ivs L).length p28) ((ivs L).length) ((ivs L).map encZ) :: blk (p) ([.int .i64 (x), .int .i64 (y), .int .i64 (d), .slice ao (L.length) (cap)]) 44 :: row 64 2 (.slice ao (L).length cap) ((L).length) (tcs (L)) :: R) := hM
            refine hK25 _ _ ?_
            (try clear hK25 K25)
            refine wp_cond_true rfl ?_
            refine wp_seq_k (fun K29 hK29 => ?_)
            refine wl_region ?_
            refine wl_give rfl (g_move _ (.pointer (some ⟨p, 0, none⟩)) rfl ?_)
            (try simp only [Act.put, List.setIfInBounds_toArray, List.set_cons_zero, List.set_cons_succ])
            refine wl_give rfl (g_nil _ ⟨p, 0, none⟩ rfl ?_)
            (try simp only [Act.put, List.setIfInBounds_toArray, List.set_cons_zero, List.set_cons_succ])
            refine wl_give rfl (g_fa 44 _ (p) (0) (2) 2 rfl (fa44_2 _ _ _) ?_)
            (try simp only [Act.put, List.setIfInBounds_toArray, List.set_cons_zero, List.set_cons_succ])
            refine wl_give rfl (g_ld1 3 _ (p) 2 _ rfl (ld3 _ _ _ _ ((hM.get 1 rfl).cell 2 _ rfl)) ?_)
            (try simp only [Act.put, List.setIfInBounds_toArray, List.set_cons_zero, List.set_cons_succ])
            refine wl_give rfl (g_ia 3 _ _ .i64 (d) (1) (d + 1) rfl rfl (wrap_id _ (by omega) (by omega)) ?_)
            (try simp only [Act.put, List.setIfInBounds_toArray, List.set_cons_zero, List.set_cons_succ])
            refine wl_give rfl (g_nil _ ⟨p, 0, none⟩ rfl ?_)
            (try simp only [Act.put, List.setIfInBounds_toArray, List.set_cons_zero, List.set_cons_succ])
            refine wl_give rfl (g_fa 44 _ (p) (0) (2) 2 rfl (fa44_2 _ _ _) ?_)
            (try simp only [Act.put, List.setIfInBounds_toArray, List.set_cons_zero, List.set_cons_succ])
            refine wl_give rfl (g_st1 3 _ _ (p) 2 (.int .i64 (d + 1)) _ 44 rfl rfl (hM.get 1 rfl) (show 2 < 4 by decide) rfl rfl size3 ?_)
            intro w30 t_ b_
            replace hM : Ms w0 w30 (row 3 1 (.slice o27 (ivs L).length p28) ((ivs L).length) ((ivs L).map encZ) :: blk (p) ([.int .i64 (x), .int .i64 (y), .int .i64 (d + 1), .slice ao (L.length) (cap)]) 44 :: row 64 2 (.slice ao (L).length cap) ((L).length) (tcs (L)) :: R) := hM.put 1 rfl t_ b_
            clear t_ b_
            (try simp only [Act.put, List.setIfInBounds_toArray, List.set_cons_zero, List.set_cons_succ])
            refine wl_nil ?_
            refine hK29 _ _ ?_
            (try clear hK29 K29)
            refine wp_seq_k (fun K31 hK31 => ?_)
            refine wl_region ?_
            refine wl_give rfl (g_assign _ (.int .i64 (4)) rfl ?_)
            (try simp only [Act.put, List.setIfInBounds_toArray, List.set_cons_zero, List.set_cons_succ])
            refine wl_nil ?_
            refine hK31 _ _ ?_
            (try clear hK31 K31)
            refine wp_ret ?_
            have h9 := (((hM.up 0 rfl).up 2 rfl).up 2 rfl)
            replace h9 := h9.erase 2
            replace h9 := rb_mk h9
            have e : bpE x y i s L = 4 := by unfold bpE; rw [if_neg h, if_neg hnh, if_pos (.inr ⟨by omega, h3⟩)]
            have hD : bpD x y i s L d = d + 1 := by simp [bpD, e]
            have hL2 : bpL x y i s L = L := by simp [bpL, e]
            (try simp only [Exit.then, Exit.inBlock, ↓reduceIte, Nat.reduceEqDiff])
            go_ret
            rw [e, hD, hL2]
            exact ⟨rfl, h9⟩
        · skip
          refine wp_seq_k (fun K32 hK32 => ?_)
          refine wp_region_steps (by kernel_rfl) (by kernel_rfl) [11] [0, 0, 0, 0, 0, 0, 0, 0, 0, 0, 0, 0, 1, 0, 0, 0, 0, 1, 1, 1] [1, 1, 1, 1, 1, 1, 1, 1, 1, 0, 0, 1, 1, 1, 1, 1, 1, 1, 1, 1] (by kernel_rfl) (Pm := Option Addr × Nat) (fun π => [.int .i64 ((((ofI i L).length : Nat) : Int)), .pointer (some ⟨p, 0, none⟩), .pointer (some ⟨p, 0, none⟩), .pointer (some ⟨p, 0, none⟩), .int .i64 (x), .bool false, .bool false, .int .i64 ((((ofI i L).length : Nat) : Int)), .bool true, .bool true, .pointer (some ⟨p, 0, none⟩), .slice π.1 ((ivs L).length) (π.2), .int .i64 ((((ivs L).length : Nat) : Int)), .pointer (some ⟨p, 0, none⟩), .pointer (some ⟨p, 0, none⟩), .pointer (some ⟨p, 1, none⟩), .int .i64 (y), .bool false, .bool false, .bool false]) (fun _ => by rfl) (fun j_ π wx => match j_ with | 0 => Ms w0 wx (blk (p) ([.int .i64 (x), .int .i64 (y), .int .i64 (d), .slice ao (L.length) (cap)]) 44 :: row 64 2 (.slice ao (L).length cap) ((L).length) (tcs (L)) :: R) | _ => Ms w0 wx (row 3 1 (.slice π.1 (ivs L).length π.2) ((ivs L).length) ((ivs L).map encZ) :: blk (p) ([.int .i64 (x), .int .i64 (y), .int .i64 (d), .slice ao (L.length) (cap)]) 44 :: row 64 2 (.slice ao (L).length cap) ((L).length) (tcs (L)) :: R)) (none, 0) hM.drew ?_ ?_ ?_
          · intro j_ k_ o_ hj_ ho_ π wx hM
            rcases j_ with _ | j_
            · obtain rfl := Option.some.inj hj_
              obtain rfl := Option.some.inj ho_
              simp only [fullL, Act.put, List.setIfInBounds_toArray, List.set_cons_succ, List.set_cons_zero]
              replace hM : Ms w0 wx (blk (p) ([.int .i64 (x), .int .i64 (y), .int .i64 (d), .slice ao (L.length) (cap)]) 44 :: row 64 2 (.slice ao (L).length cap) ((L).length) (tcs (L)) :: R) := hM
              exact gw rfl (g_call 22 _ _ [.pointer (some ⟨p, 0, none⟩)] (kf22 _ _) rfl ((rivals_op (show Ms w0 wx (blk (p) ([.int .i64 (x), .int .i64 (y), .int .i64 (d), .slice ao (L.length) (cap)]) 44 :: row 64 2 (.slice ao (L).length cap) ((L).length) (tcs (L)) :: R) from ((hM.up 1 rfl).up 1 rfl)) hL).mono (fun e w' ⟨g_0, g_1, h1_, h2_⟩ => ⟨_, h1_, ⟨(g_0, g_1), rfl, fun i h1 h2 => by rcases i with _ | _ | _ | _ | _ | _ | _ | _ | _ | _ | _ | _ | _ | _ | _ | _ | _ | _ | _ | _ | i <;> first | rfl | trivial | exact absurd rfl h2 | exact absurd h1 (by decide), h2_⟩⟩)))
            · simp at hj_
          · intro i_ o_ ho_ hi_ j_ hd_ hh_ hj_ π wx hM
            simp only [fullL, Act.put, List.setIfInBounds_toArray, List.set_cons_succ, List.set_cons_zero]
            rcases i_ with _ | _ | _ | _ | _ | _ | _ | _ | _ | _ | _ | _ | _ | _ | _ | _ | _ | _ | _ | _ | i_
            · obtain rfl := Option.some.inj ho_
              exact gw rfl (g_move _ (.int .i64 ((((ofI i L).length : Nat) : Int))) rfl ⟨rfl, hM⟩)
            · obtain rfl := Option.some.inj ho_
              exact gw rfl (g_move _ (.pointer (some ⟨p, 0, none⟩)) rfl ⟨rfl, hM⟩)
            · obtain rfl := Option.some.inj ho_
              exact gw rfl (g_nil _ ⟨p, 0, none⟩ rfl ⟨rfl, hM⟩)
            · obtain rfl := Option.some.inj ho_
              exact gw rfl (g_fa 44 _ (p) (0) (0) 0 rfl (fa44_0 _ _ _) ⟨rfl, hM⟩)
            · obtain rfl := Option.some.inj ho_
              rcases j_ with _ | _ | j_
              · replace hM : Ms w0 wx (blk (p) ([.int .i64 (x), .int .i64 (y), .int .i64 (d), .slice ao (L.length) (cap)]) 44 :: row 64 2 (.slice ao (L).length cap) ((L).length) (tcs (L)) :: R) := hM
                exact gw rfl (g_ld1 3 _ (p) 0 _ rfl (ld3 _ _ _ _ ((hM.get 0 rfl).cell 0 _ rfl)) ⟨rfl, hM⟩)
              · replace hM : Ms w0 wx (row 3 1 (.slice π.1 (ivs L).length π.2) ((ivs L).length) ((ivs L).map encZ) :: blk (p) ([.int .i64 (x), .int .i64 (y), .int .i64 (d), .slice ao (L.length) (cap)]) 44 :: row 64 2 (.slice ao (L).length cap) ((L).length) (tcs (L)) :: R) := hM
                exact gw rfl (g_ld1 3 _ (p) 0 _ rfl (ld3 _ _ _ _ ((hM.get 1 rfl).cell 0 _ rfl)) ⟨rfl, hM⟩)
              · exact absurd hj_ (by simp)
            · obtain rfl := Option.some.inj ho_
              exact gw rfl (g_igeq 3 _ _ .i64 ((((ofI i L).length : Nat) : Int)) (x) false rfl rfl (decide_eq_false h1) ⟨rfl, hM⟩)
            · obtain rfl := Option.some.inj ho_
              exact gw rfl (g_move _ (.bool false) rfl ⟨rfl, hM⟩)
            · obtain rfl := Option.some.inj ho_
              exact gw rfl (g_move _ (.int .i64 ((((ofI i L).length : Nat) : Int))) rfl ⟨rfl, hM⟩)
            · obtain rfl := Option.some.inj ho_
              exact gw rfl (g_ieq 3 _ _ .i64 ((((ofI i L).length : Nat) : Int)) (0) true rfl rfl (decide_eq_true h2) ⟨rfl, hM⟩)
            · obtain rfl := Option.some.inj ho_
              exact gw rfl (g_move _ (.bool true) rfl ⟨rfl, hM⟩)
            · obtain rfl := Option.some.inj ho_
              exact gw rfl (g_move _ (.pointer (some ⟨p, 0, none⟩)) rfl ⟨rfl, hM⟩)
            · exact absurd (by decide) hi_
            · obtain rfl := Option.some.inj ho_
              exact gw rfl (g_len _ 39 3 (π.1) ((ivs L).length) (π.2) ((((ivs L).length : Nat) : Int)) Try.underlying39 rfl rfl ⟨rfl, hM⟩)
            · obtain rfl := Option.some.inj ho_
              exact gw rfl (g_move _ (.pointer (some ⟨p, 0, none⟩)) rfl ⟨rfl, hM⟩)
            · obtain rfl := Option.some.inj ho_
              exact gw rfl (g_nil _ ⟨p, 0, none⟩ rfl ⟨rfl, hM⟩)
            · obtain rfl := Option.some.inj ho_
              exact gw rfl (g_fa 44 _ (p) (0) (1) 1 rfl (fa44_1 _ _ _) ⟨rfl, hM⟩)
            · obtain rfl := Option.some.inj ho_
              rcases j_ with _ | _ | j_
              · replace hM : Ms w0 wx (blk (p) ([.int .i64 (x), .int .i64 (y), .int .i64 (d), .slice ao (L.length) (cap)]) 44 :: row 64 2 (.slice ao (L).length cap) ((L).length) (tcs (L)) :: R) := hM
                exact gw rfl (g_ld1 3 _ (p) 1 _ rfl (ld3 _ _ _ _ ((hM.get 0 rfl).cell 1 _ rfl)) ⟨rfl, hM⟩)
              · replace hM : Ms w0 wx (row 3 1 (.slice π.1 (ivs L).length π.2) ((ivs L).length) ((ivs L).map encZ) :: blk (p) ([.int .i64 (x), .int .i64 (y), .int .i64 (d), .slice ao (L.length) (cap)]) 44 :: row 64 2 (.slice ao (L).length cap) ((L).length) (tcs (L)) :: R) := hM
                exact gw rfl (g_ld1 3 _ (p) 1 _ rfl (ld3 _ _ _ _ ((hM.get 1 rfl).cell 1 _ rfl)) ⟨rfl, hM⟩)
              · exact absurd hj_ (by simp)
            · obtain rfl := Option.some.inj ho_
              exact gw rfl (g_igeq 3 _ _ .i64 ((((ivs L).length : Nat) : Int)) (y) false rfl rfl (decide_eq_false h3) ⟨rfl, hM⟩)
            · obtain rfl := Option.some.inj ho_
              exact gw rfl (g_pickt _ _ _ (.bool false) rfl rfl ⟨rfl, hM⟩)
            · obtain rfl := Option.some.inj ho_
              exact gw rfl (g_pickf _ _ _ (.bool false) rfl rfl ⟨rfl, hM⟩)
            · simp at ho_
          · simp only [fullL, Act.put, List.setIfInBounds_toArray, List.set_cons_succ, List.set_cons_zero]
            rintro ⟨o34, p35⟩ w33 hM
            replace hM : Ms w0 w33 (row 3 1 (.slice o34 (ivs L).length p35) ((ivs L).length) ((ivs L).map encZ) :: blk (p) ([.int .i64 (x), .int .i64 (y), .int .i64 (d), .slice ao (L.length) (cap)]) 44 :: row 64 2 (.slice ao (L).length cap) ((L).length) (tcs (L)) :: R) := hM
            refine hK32 _ _ ?_
            (try clear hK32 K32)
            refine wp_cond_false rfl ?_
            refine wp_skip ?_
            refine hK19 _ _ ?_
            (try clear hK19 K19)
            refine wp_seq_k (fun K36 hK36 => ?_)
            refine wl_region ?_
            refine wl_give rfl (g_move _ (.pointer (some ⟨p, 0, none⟩)) rfl ?_)
            (try simp only [Act.put, List.setIfInBounds_toArray, List.set_cons_zero, List.set_cons_succ])
            refine wl_give rfl (g_bs0 42 64 2 Try.underlying42 szof64 _ Try.zeroValue64 hM ?_)
            intro w37 h_
            replace hM : Ms w0 w37 (row 64 2 (.slice (some ⟨w33.heap.size, 0, none⟩) 0 0) (0) ([]) :: row 3 1 (.slice o34 (ivs L).length p35) ((ivs L).length) ((ivs L).map encZ) :: blk (p) ([.int .i64 (x), .int .i64 (y), .int .i64 (d), .slice ao (L.length) (cap)]) 44 :: row 64 2 (.slice ao (L).length cap) ((L).length) (tcs (L)) :: R) := h_
            clear h_
            (try simp only [Act.put, List.setIfInBounds_toArray, List.set_cons_zero, List.set_cons_succ])
            refine wl_give rfl (g_move _ (.pointer (some ⟨p, 0, none⟩)) rfl ?_)
            (try simp only [Act.put, List.setIfInBounds_toArray, List.set_cons_zero, List.set_cons_succ])
            refine wl_give rfl (g_nil _ ⟨p, 0, none⟩ rfl ?_)
            (try simp only [Act.put, List.setIfInBounds_toArray, List.set_cons_zero, List.set_cons_succ])
            refine wl_give rfl (g_fa 44 _ (p) (0) (3) 3 rfl (fa44_3 _ _ _) ?_)
            (try simp only [Act.put, List.setIfInBounds_toArray, List.set_cons_zero, List.set_cons_succ])
            refine wl_give rfl (g_ld1 42 _ (p) 3 _ rfl (ld42 _ _ _ _ ((hM.get 2 rfl).cell 3 _ rfl)) ?_)
            (try simp only [Act.put, List.setIfInBounds_toArray, List.set_cons_zero, List.set_cons_succ])
            refine wl_give rfl (g_apAll _ _ _ _ (L.length) _ (tcs L) rfl rfl (show Ms w0 w37 (row 64 2 (.slice (some ⟨w33.heap.size, 0, none⟩) 0 0) (0) ([]) :: row 64 2 (.slice ao (L).length cap) ((L).length) (tcs (L)) :: row 3 1 (.slice o34 (ivs L).length p35) ((ivs L).length) ((ivs L).map encZ) :: blk (p) ([.int .i64 (x), .int .i64 (y), .int .i64 (d), .slice ao (L.length) (cap)]) 44 :: R) from ((hM.up 3 rfl).up 1 rfl)) (by omega) ?_)
            intro v39 w38 h_
            replace hM : Ms w0 w38 (row 64 2 v39 (L.length) (tcs L) :: row 64 2 (.slice ao (L).length cap) ((L).length) (tcs (L)) :: row 3 1 (.slice o34 (ivs L).length p35) ((ivs L).length) ((ivs L).map encZ) :: blk (p) ([.int .i64 (x), .int .i64 (y), .int .i64 (d), .slice ao (L.length) (cap)]) 44 :: R) := h_
            clear h_
            (try simp only [Act.put, List.setIfInBounds_toArray, List.set_cons_zero, List.set_cons_succ])
            refine wl_give rfl (g_move _ (.int .i64 (i)) rfl ?_)
            (try simp only [Act.put, List.setIfInBounds_toArray, List.set_cons_zero, List.set_cons_succ])
            refine wl_give rfl (g_move _ (.string (s)) rfl ?_)
            (try simp only [Act.put, List.setIfInBounds_toArray, List.set_cons_zero, List.set_cons_succ])
            refine wl_give rfl (g_bld64 _ _ (i) (s) rfl rfl ?_)
            (try simp only [Act.put, List.setIfInBounds_toArray, List.set_cons_zero, List.set_cons_succ])
            refine wl_give rfl (g_bs64 _ (i, s) rfl hM ?_)
            intro w40 h_
            replace hM : Ms w0 w40 (blk (w38.heap.size) (tc (i, s)) 64 :: row 64 2 v39 (L.length) (tcs L) :: row 64 2 (.slice ao (L).length cap) ((L).length) (tcs (L)) :: row 3 1 (.slice o34 (ivs L).length p35) ((ivs L).length) ((ivs L).map encZ) :: blk (p) ([.int .i64 (x), .int .i64 (y), .int .i64 (d), .slice ao (L.length) (cap)]) 44 :: R) := h_
            clear h_
            (try simp only [Act.put, List.setIfInBounds_toArray, List.set_cons_zero, List.set_cons_succ])
            refine wl_give rfl (g_apT _ _ (v39) (L.length) (tcs L) (w38.heap.size) 1 (tc (i, s)) 64 rfl rfl (show Ms w0 w40 (row 64 2 v39 (L.length) (tcs L) :: blk (w38.heap.size) (tc (i, s)) 64 :: row 64 2 (.slice ao (L).length cap) ((L).length) (tcs (L)) :: row 3 1 (.slice o34 (ivs L).length p35) ((ivs L).length) ((ivs L).map encZ) :: blk (p) ([.int .i64 (x), .int .i64 (y), .int .i64 (d), .slice ao (L.length) (cap)]) 44 :: R) from (hM.up 1 rfl)) rfl (by simp [tc, Value.oneCell']) (by omega) ?_)
            intro v42 w41 h_
            replace hM : Ms w0 w41 (row 64 2 v42 (L.length + 1) (tcs L ++ tc (i, s)) :: blk (w38.heap.size) (tc (i, s)) 64 :: row 64 2 (.slice ao (L).length cap) ((L).length) (tcs (L)) :: row 3 1 (.slice o34 (ivs L).length p35) ((ivs L).length) ((ivs L).map encZ) :: blk (p) ([.int .i64 (x), .int .i64 (y), .int .i64 (d), .slice ao (L.length) (cap)]) 44 :: R) := h_
            clear h_
            (try simp only [Act.put, List.setIfInBounds_toArray, List.set_cons_zero, List.set_cons_succ])
            refine wl_give rfl (g_nil _ ⟨p, 0, none⟩ rfl ?_)
            (try simp only [Act.put, List.setIfInBounds_toArray, List.set_cons_zero, List.set_cons_succ])
            refine wl_give rfl (g_fa 44 _ (p) (0) (3) 3 rfl (fa44_3 _ _ _) ?_)
            (try simp only [Act.put, List.setIfInBounds_toArray, List.set_cons_zero, List.set_cons_succ])
            refine wl_give rfl (g_st1 42 _ _ (p) 3 (v42) _ 44 rfl rfl (hM.get 4 rfl) (show 3 < 4 by decide) (row_one hM).2 (row_one hM).1 size42 ?_)
            intro w43 t_ b_
            replace hM : Ms w0 w43 (row 64 2 v42 (L.length + 1) (tcs L ++ tc (i, s)) :: blk (w38.heap.size) (tc (i, s)) 64 :: row 64 2 (.slice ao (L).length cap) ((L).length) (tcs (L)) :: row 3 1 (.slice o34 (ivs L).length p35) ((ivs L).length) ((ivs L).map encZ) :: blk (p) ([.int .i64 (x), .int .i64 (y), .int .i64 (d), v42]) 44 :: R) := hM.put 4 rfl t_ b_
            clear t_ b_
            (try simp only [Act.put, List.setIfInBounds_toArray, List.set_cons_zero, List.set_cons_succ])
            refine wl_nil ?_
            refine hK36 _ _ ?_
            (try clear hK36 K36)
            refine wp_seq_k (fun K44 hK44 => ?_)
            refine wl_region ?_
            refine wl_give rfl (g_assign _ (.int .i64 (0)) rfl ?_)
            (try simp only [Act.put, List.setIfInBounds_toArray, List.set_cons_zero, List.set_cons_succ])
            refine wl_nil ?_
            refine hK44 _ _ ?_
            (try clear hK44 K44)
            refine wp_ret ?_
            have h9 := (((((hM.up 3 rfl).up 3 rfl).up 3 rfl).up 3 rfl).up 4 rfl)
            replace h9 := h9.erase 2
            replace h9 := h9.erase 2
            replace h9 := h9.erase 2
            replace h9 := rb_mk (L := L ++ [(i, s)]) (by rw [List.length_append, tcs_snoc]; exact h9)
            have e : bpE x y i s L = 0 := by unfold bpE; rw [if_neg h, if_neg hnh, if_neg (by omega)]
            have hD : bpD x y i s L d = d := by simp [bpD, e]
            have hL2 : bpL x y i s L = L ++ [(i, s)] := by simp [bpL, e]
            (try simp only [Exit.then, Exit.inBlock, ↓reduceIte, Nat.reduceEqDiff])
            go_ret
            rw [e, hD, hL2]
            exact ⟨rfl, h9⟩
      · skip
        refine wp_seq_k (fun K45 hK45 => ?_)
        refine wp_region_fixed (by kernel_rfl) (by kernel_rfl) [.int .i64 ((((ofI i L).length : Nat) : Int)), .pointer (some ⟨p, 0, none⟩), .pointer (some ⟨p, 0, none⟩), .pointer (some ⟨p, 0, none⟩), .int .i64 (x), .bool false, .bool false, .int .i64 ((((ofI i L).length : Nat) : Int)), .bool false, .bool false, undef, undef, undef, undef, undef, undef, undef, undef, .bool false, .bool false] (by rfl) (fun wx => Ms w0 wx (blk (p) ([.int .i64 (x), .int .i64 (y), .int .i64 (d), .slice ao (L.length) (cap)]) 44 :: row 64 2 (.slice ao (L).length cap) ((L).length) (tcs (L)) :: R)) hM.drew ?_ ?_
        · simp only [fullL, Act.put, List.setIfInBounds_toArray, List.set_cons_succ, List.set_cons_zero]
          refine ⟨?_, ?_, ?_, ?_, ?_, ?_, ?_, ?_, ?_, ?_, ?_, ?_, ?_, ?_, ?_, ?_, ?_, ?_, ?_, ?_, trivial⟩
          · exact fun wx hM => gw rfl (g_move _ (.int .i64 ((((ofI i L).length : Nat) : Int))) rfl ⟨rfl, hM⟩)
          · exact fun wx hM => gw rfl (g_move _ (.pointer (some ⟨p, 0, none⟩)) rfl ⟨rfl, hM⟩)
          · exact fun wx hM => gw rfl (g_nil _ ⟨p, 0, none⟩ rfl ⟨rfl, hM⟩)
          · exact fun wx hM => gw rfl (g_fa 44 _ (p) (0) (0) 0 rfl (fa44_0 _ _ _) ⟨rfl, hM⟩)
          · exact fun wx hM => gw rfl (g_ld1 3 _ (p) 0 _ rfl (ld3 _ _ _ _ ((hM.get 0 rfl).cell 0 _ rfl)) ⟨rfl, hM⟩)
          · exact fun wx hM => gw rfl (g_igeq 3 _ _ .i64 ((((ofI i L).length : Nat) : Int)) (x) false rfl rfl (decide_eq_false h1) ⟨rfl, hM⟩)
          · exact fun wx hM => gw rfl (g_move _ (.bool false) rfl ⟨rfl, hM⟩)
          · exact fun wx hM => gw rfl (g_move _ (.int .i64 ((((ofI i L).length : Nat) : Int))) rfl ⟨rfl, hM⟩)
          · exact fun wx hM => gw rfl (g_ieq 3 _ _ .i64 ((((ofI i L).length : Nat) : Int)) (0) false rfl rfl (decide_eq_false h2) ⟨rfl, hM⟩)
          · exact fun wx hM => gw rfl (g_move _ (.bool false) rfl ⟨rfl, hM⟩)
          · exact fun wx hM => gn rfl ⟨rfl, hM⟩
          · exact fun wx hM => gn rfl ⟨rfl, hM⟩
          · exact fun wx hM => gn rfl ⟨rfl, hM⟩
          · exact fun wx hM => gn rfl ⟨rfl, hM⟩
          · exact fun wx hM => gn rfl ⟨rfl, hM⟩
          · exact fun wx hM => gn rfl ⟨rfl, hM⟩
          · exact fun wx hM => gn rfl ⟨rfl, hM⟩
          · exact fun wx hM => gn rfl ⟨rfl, hM⟩
          · exact fun wx hM => gw rfl (g_pickf _ _ _ (.bool false) rfl rfl ⟨rfl, hM⟩)
          · exact fun wx hM => gw rfl (g_pickf _ _ _ (.bool false) rfl rfl ⟨rfl, hM⟩)
        · simp only [fullL, Act.put, List.setIfInBounds_toArray, List.set_cons_succ, List.set_cons_zero]
          intro w46 hM
          refine hK45 _ _ ?_
          (try clear hK45 K45)
          refine wp_cond_false rfl ?_
          refine wp_skip ?_
          refine hK19 _ _ ?_
          (try clear hK19 K19)
          refine wp_seq_k (fun K47 hK47 => ?_)
          refine wl_region ?_
          refine wl_give rfl (g_move _ (.pointer (some ⟨p, 0, none⟩)) rfl ?_)
          (try simp only [Act.put, List.setIfInBounds_toArray, List.set_cons_zero, List.set_cons_succ])
          refine wl_give rfl (g_bs0 42 64 2 Try.underlying42 szof64 _ Try.zeroValue64 hM ?_)
          intro w48 h_
          replace hM : Ms w0 w48 (row 64 2 (.slice (some ⟨w46.heap.size, 0, none⟩) 0 0) (0) ([]) :: blk (p) ([.int .i64 (x), .int .i64 (y), .int .i64 (d), .slice ao (L.length) (cap)]) 44 :: row 64 2 (.slice ao (L).length cap) ((L).length) (tcs (L)) :: R) := h_
          clear h_
          (try simp only [Act.put, List.setIfInBounds_toArray, List.set_cons_zero, List.set_cons_succ])
          refine wl_give rfl (g_move _ (.pointer (some ⟨p, 0, none⟩)) rfl ?_)
          (try simp only [Act.put, List.setIfInBounds_toArray, List.set_cons_zero, List.set_cons_succ])
          refine wl_give rfl (g_nil _ ⟨p, 0, none⟩ rfl ?_)
          (try simp only [Act.put, List.setIfInBounds_toArray, List.set_cons_zero, List.set_cons_succ])
          refine wl_give rfl (g_fa 44 _ (p) (0) (3) 3 rfl (fa44_3 _ _ _) ?_)
          (try simp only [Act.put, List.setIfInBounds_toArray, List.set_cons_zero, List.set_cons_succ])
          refine wl_give rfl (g_ld1 42 _ (p) 3 _ rfl (ld42 _ _ _ _ ((hM.get 1 rfl).cell 3 _ rfl)) ?_)
          (try simp only [Act.put, List.setIfInBounds_toArray, List.set_cons_zero, List.set_cons_succ])
          refine wl_give rfl (g_apAll _ _ _ _ (L.length) _ (tcs L) rfl rfl (show Ms w0 w48 (row 64 2 (.slice (some ⟨w46.heap.size, 0, none⟩) 0 0) (0) ([]) :: row 64 2 (.slice ao (L).length cap) ((L).length) (tcs (L)) :: blk (p) ([.int .i64 (x), .int .i64 (y), .int .i64 (d), .slice ao (L.length) (cap)]) 44 :: R) from ((hM.up 2 rfl).up 1 rfl)) (by omega) ?_)
          intro v50 w49 h_
          replace hM : Ms w0 w49 (row 64 2 v50 (L.length) (tcs L) :: row 64 2 (.slice ao (L).length cap) ((L).length) (tcs (L)) :: blk (p) ([.int .i64 (x), .int .i64 (y), .int .i64 (d), .slice ao (L.length) (cap)]) 44 :: R) := h_
          clear h_
          (try simp only [Act.put, List.setIfInBounds_toArray, List.set_cons_zero, List.set_cons_succ])
          refine wl_give rfl (g_move _ (.int .i64 (i)) rfl ?_)
          (try simp only [Act.put, List.setIfInBounds_toArray, List.set_cons_zero, List.set_cons_succ])
          refine wl_give rfl (g_move _ (.string (s)) rfl ?_)
          (try simp only [Act.put, List.setIfInBounds_toArray, List.set_cons_zero, List.set_cons_succ])
          refine wl_give rfl (g_bld64 _ _ (i) (s) rfl rfl ?_)
          (try simp only [Act.put, List.setIfInBounds_toArray, List.set_cons_zero, List.set_cons_succ])
          refine wl_give rfl (g_bs64 _ (i, s) rfl hM ?_)
          intro w51 h_
          replace hM : Ms w0 w51 (blk (w49.heap.size) (tc (i, s)) 64 :: row 64 2 v50 (L.length) (tcs L) :: row 64 2 (.slice ao (L).length cap) ((L).length) (tcs (L)) :: blk (p) ([.int .i64 (x), .int .i64 (y), .int .i64 (d), .slice ao (L.length) (cap)]) 44 :: R) := h_
          clear h_
          (try simp only [Act.put, List.setIfInBounds_toArray, List.set_cons_zero, List.set_cons_succ])
          refine wl_give rfl (g_apT _ _ (v50) (L.length) (tcs L) (w49.heap.size) 1 (tc (i, s)) 64 rfl rfl (show Ms w0 w51 (row 64 2 v50 (L.length) (tcs L) :: blk (w49.heap.size) (tc (i, s)) 64 :: row 64 2 (.slice ao (L).length cap) ((L).length) (tcs (L)) :: blk (p) ([.int .i64 (x), .int .i64 (y), .int .i64 (d), .slice ao (L.length) (cap)]) 44 :: R) from (hM.up 1 rfl)) rfl (by simp [tc, Value.oneCell']) (by omega) ?_)
          intro v53 w52 h_
          replace hM : Ms w0 w52 (row 64 2 v53 (L.length + 1) (tcs L ++ tc (i, s)) :: blk (w49.heap.size) (tc (i, s)) 64 :: row 64 2 (.slice ao (L).length cap) ((L).length) (tcs (L)) :: blk (p) ([.int .i64 (x), .int .i64 (y), .int .i64 (d), .slice ao (L.length) (cap)]) 44 :: R) := h_
          clear h_
          (try simp only [Act.put, List.setIfInBounds_toArray, List.set_cons_zero, List.set_cons_succ])
          refine wl_give rfl (g_nil _ ⟨p, 0, none⟩ rfl ?_)
          (try simp only [Act.put, List.setIfInBounds_toArray, List.set_cons_zero, List.set_cons_succ])
          refine wl_give rfl (g_fa 44 _ (p) (0) (3) 3 rfl (fa44_3 _ _ _) ?_)
          (try simp only [Act.put, List.setIfInBounds_toArray, List.set_cons_zero, List.set_cons_succ])
          refine wl_give rfl (g_st1 42 _ _ (p) 3 (v53) _ 44 rfl rfl (hM.get 3 rfl) (show 3 < 4 by decide) (row_one hM).2 (row_one hM).1 size42 ?_)
          intro w54 t_ b_
          replace hM : Ms w0 w54 (row 64 2 v53 (L.length + 1) (tcs L ++ tc (i, s)) :: blk (w49.heap.size) (tc (i, s)) 64 :: row 64 2 (.slice ao (L).length cap) ((L).length) (tcs (L)) :: blk (p) ([.int .i64 (x), .int .i64 (y), .int .i64 (d), v53]) 44 :: R) := hM.put 3 rfl t_ b_
          clear t_ b_
          (try simp only [Act.put, List.setIfInBounds_toArray, List.set_cons_zero, List.set_cons_succ])
          refine wl_nil ?_
          refine hK47 _ _ ?_
          (try clear hK47 K47)
          refine wp_seq_k (fun K55 hK55 => ?_)
          refine wl_region ?_
          refine wl_give rfl (g_assign _ (.int .i64 (0)) rfl ?_)
          (try simp only [Act.put, List.setIfInBounds_toArray, List.set_cons_zero, List.set_cons_succ])
          refine wl_nil ?_
          refine hK55 _ _ ?_
          (try clear hK55 K55)
          refine wp_ret ?_
          have h9 := ((((hM.up 2 rfl).up 2 rfl).up 2 rfl).up 3 rfl)
          replace h9 := h9.erase 2
          replace h9 := h9.erase 2
          replace h9 := rb_mk (L := L ++ [(i, s)]) (by rw [List.length_append, tcs_snoc]; exact h9)
          have e : bpE x y i s L = 0 := by unfold bpE; rw [if_neg h, if_neg hnh, if_neg (by omega)]
          have hD : bpD x y i s L d = d := by simp [bpD, e]
          have hL2 : bpL x y i s L = L ++ [(i, s)] := by simp [bpL, e]
          (try simp only [Exit.then, Exit.inBlock, ↓reduceIte, Nat.reduceEqDiff])
          go_ret
          rw [e, hD, hL2]
          exact ⟨rfl, h9⟩
theorem rput_any {w0 w : World} {R : List HP} {p : Nat} {x y d : Int} {L : List Thg} {i : Int} {s : ByteArray} (hM : Ms w0 w (rb p x y d L :: R)) (hL : L.length ≤ 10000) (hd : 0 ≤ d) (hd2 : d < 1000000) : Calls Try.prog 15 #[.pointer (some ⟨p, 0, none⟩), .int .i64 i, .string s] w fun e w' => e = .returned (.int .i64 (bpE x y i s L)) ∧ Ms w0 w' (rb p x y (bpD x y i s L d) (bpL x y i s L) :: R) := by
  by_cases h : i < 1
  · exact rput_low hM hL hd hd2 h
  · exact rput_high hM hL hd hd2 h
end Go.Proofs.Ytpkjocibgmjhdaa
