/- What the reference's parted, Take and Drop answer. -/
import Derived.Test.YtpkjocibgmjhdaaRf1
namespace Go.Proofs.Ytpkjocibgmjhdaa
set_option maxRecDepth 10000
open Go Go.RowKit
set_option linter.unusedVariables false
set_option linter.unusedSimpArgs false

def pin (lo hi : Int) (t : Thg) : Bool := decide (lo ≤ t.1) && decide (t.1 ≤ hi)
def inT (lo hi : Int) (L : List Thg) : List ByteArray := (L.filter (pin lo hi)).map (·.2)
def outT (lo hi : Int) (L : List Thg) : List Thg := L.filter (fun t => !pin lo hi t)
theorem inT_in {lo hi : Int} {t : Thg} (h : pin lo hi t = true) (L : List Thg) : inT lo hi (L ++ [t]) = inT lo hi L ++ [t.2] := by simp [inT, h]
theorem inT_out {lo hi : Int} {t : Thg} (h : pin lo hi t = false) (L : List Thg) : inT lo hi (L ++ [t]) = inT lo hi L := by simp [inT, h]
theorem outT_in {lo hi : Int} {t : Thg} (h : pin lo hi t = true) (L : List Thg) : outT lo hi (L ++ [t]) = outT lo hi L := by simp [outT, h]
theorem outT_out {lo hi : Int} {t : Thg} (h : pin lo hi t = false) (L : List Thg) : outT lo hi (L ++ [t]) = outT lo hi L ++ [t] := by simp [outT, h]
theorem inT_len (lo hi : Int) (L : List Thg) (j : Nat) : (inT lo hi (L.take j)).length ≤ L.length := by
  unfold inT
  rw [List.length_map]
  exact Nat.le_trans (List.length_filter_le _ _) (by rw [List.length_take]; omega)
theorem outT_len (lo hi : Int) (L : List Thg) (j : Nat) : (outT lo hi (L.take j)).length ≤ L.length :=
  Nat.le_trans (List.length_filter_le _ _) (by rw [List.length_take]; omega)
theorem pin_one (i : Int) (t : Thg) : pin i i t = decide (t.1 = i) := by
  unfold pin
  by_cases h : t.1 = i
  · simp [h]
  · simp [h]; omega
theorem inT_one (i : Int) (L : List Thg) : inT i i L = ofI i L := by unfold inT ofI; congr 1; exact List.filter_congr fun t _ => pin_one i t
theorem outT_one (i : Int) (L : List Thg) : outT i i L = notI i L := by unfold outT notI; exact List.filter_congr fun t _ => by rw [pin_one]
theorem outT_low {lo : Int} {L : List Thg} (h : ∀ t ∈ L, 1 ≤ t.1) : outT 1 (lo - 1) L = notB lo L := by
  unfold outT notB
  refine List.filter_congr fun t ht => ?_
  have := h t ht
  unfold pin
  by_cases h1 : t.1 < lo
  · simp [h1]; omega
  · simp [h1]; omega
theorem inT_low {lo : Int} {L : List Thg} (h : ∀ t ∈ L, 1 ≤ t.1) : (inT 1 (lo - 1) L).length = bdN lo L := by
  have h1 := List.length_eq_countP_add_countP (pin 1 (lo - 1)) (l := L)
  unfold bdN
  rw [← outT_low h]
  unfold inT outT
  rw [List.length_map, ← List.countP_eq_length_filter, ← List.countP_eq_length_filter]
  have e : (fun a => decide ¬ (pin 1 (lo - 1) a = true)) = (fun t => !pin 1 (lo - 1) t) := by funext a; simp
  rw [e] at h1
  omega
theorem notB_low {lo : Int} {L : List Thg} (h : ∀ t ∈ L, 1 ≤ t.1) (hl : lo < 1) : notB lo L = L := by
  unfold notB
  refine List.filter_eq_self.2 fun t ht => ?_
  have := h t ht
  simp only [Bool.not_eq_true', decide_eq_false_iff_not]
  omega
theorem size64 : (Try.prog.info? 64).map (·.size) = some 2 := by kernel_rfl
section
variable {dst : Option Tmp} {ty : TypeId} {pos : String} {aft : Array Edge} {gd : Option (Nat × Bool)} {a : Act} {w : World} {K : Value → World → Prop}
theorem g_ldTh (x : Operand) (b o : Nat) (t : Thg) (hx : a.eval x = .pointer (some ⟨b, o, none⟩)) (h0 : w.cell? ⟨b, o, none⟩ = some (.int .i64 t.1)) (h1 : w.cell? ⟨b, o + 1, none⟩ = some (.string t.2))
    (hk : K (.agg (tc (t.1, t.2)).toArray) w) : gives Try.prog ⟨dst, .load 64 x, ty, pos, aft, gd⟩ a w K := by
  have hr : w.rangeAt b o (tc (t.1, t.2)) := fun j v hv => by
    match j with
    | 0 => simp [tc] at hv; subst hv; exact h0
    | 1 => simp [tc] at hv; subst hv; exact h1
    | j + 2 => simp [tc] at hv
  exact g_val _ w (by simp only [execOp, hx, Sem.run_bind, run_loadAt_mid w b o 64 _ _ hr Try.underlying64 rfl size64, Result.andThen_ok, Sem.run_pure]) hk
end
set_option maxHeartbeats 4000000 in
theorem parted_op {w0 w : World} {R : List HP} {p : Nat} {x y d : Int} {L : List Thg} {lo hi : Int} {ao : Option Addr} {cap : Nat} (hM : Ms w0 w (blk (p) ([.int .i64 (x), .int .i64 (y), .int .i64 (d), .slice ao (L.length) (cap)]) 44 :: row 64 2 (.slice ao (L).length cap) ((L).length) (tcs (L)) :: R)) (hL : L.length ≤ 10000) : Calls Try.prog 28 #[.pointer (some ⟨p, 0, none⟩), .int .i64 lo, .int .i64 hi] w fun e w' => ∃ o1 o2 k1 k2, e = .returned (.tuple #[.slice o1 (inT lo hi L).length k1, .slice o2 (outT lo hi L).length k2]) ∧ Ms w0 w' (row 9 1 (.slice o1 (inT lo hi L).length k1) ((inT lo hi L).length) ((inT lo hi L).map Value.string) :: row 64 2 (.slice o2 (outT lo hi L).length k2) ((outT lo hi L).length) (tcs (outT lo hi L)) :: blk (p) ([.int .i64 (x), .int .i64 (y), .int .i64 (d), .slice ao (L.length) (cap)]) 44 :: row 64 2 (.slice ao (L).length cap) ((L).length) (tcs (L)) :: R) := by
  go_enter Try.func28, Try.ntmps28
  refine wp_seq_k (fun K1 hK1 => ?_)
  refine wl_region ?_
  refine wl_give rfl (g_assign _ (.slice none (0) (0)) rfl ?_)
  (try simp only [Act.put, List.setIfInBounds_toArray, List.set_cons_zero, List.set_cons_succ])
  refine wl_give rfl (g_assign _ (.slice none (0) (0)) rfl ?_)
  (try simp only [Act.put, List.setIfInBounds_toArray, List.set_cons_zero, List.set_cons_succ])
  refine wl_nil ?_
  refine hK1 _ _ ?_
  (try clear hK1 K1)
  refine wp_seq_k (fun K2 hK2 => ?_)
  refine wl_region ?_
  refine wl_give rfl (g_bs0 36 9 1 Try.underlying36 szof9 _ Try.zeroValue9 hM ?_)
  intro w3 h_
  replace hM : Ms w0 w3 (row 9 1 (.slice (some ⟨w.heap.size, 0, none⟩) 0 0) (0) ([]) :: blk (p) ([.int .i64 (x), .int .i64 (y), .int .i64 (d), .slice ao (L.length) (cap)]) 44 :: row 64 2 (.slice ao (L).length cap) ((L).length) (tcs (L)) :: R) := h_
  clear h_
  (try simp only [Act.put, List.setIfInBounds_toArray, List.set_cons_zero, List.set_cons_succ])
  refine wl_give rfl (g_assign _ (.slice (some ⟨w.heap.size, 0, none⟩) (0) (0)) rfl ?_)
  (try simp only [Act.put, List.setIfInBounds_toArray, List.set_cons_zero, List.set_cons_succ])
  refine wl_nil ?_
  refine hK2 _ _ ?_
  (try clear hK2 K2)
  refine wp_seq_k (fun K4 hK4 => ?_)
  refine wl_region ?_
  refine wl_give rfl (g_bs0 42 64 2 Try.underlying42 szof64 _ Try.zeroValue64 hM ?_)
  intro w5 h_
  replace hM : Ms w0 w5 (row 64 2 (.slice (some ⟨w3.heap.size, 0, none⟩) 0 0) (0) ([]) :: row 9 1 (.slice (some ⟨w.heap.size, 0, none⟩) 0 0) (0) ([]) :: blk (p) ([.int .i64 (x), .int .i64 (y), .int .i64 (d), .slice ao (L.length) (cap)]) 44 :: row 64 2 (.slice ao (L).length cap) ((L).length) (tcs (L)) :: R) := h_
  clear h_
  (try simp only [Act.put, List.setIfInBounds_toArray, List.set_cons_zero, List.set_cons_succ])
  refine wl_give rfl (g_assign _ (.slice (some ⟨w3.heap.size, 0, none⟩) (0) (0)) rfl ?_)
  (try simp only [Act.put, List.setIfInBounds_toArray, List.set_cons_zero, List.set_cons_succ])
  refine wl_nil ?_
  refine hK4 _ _ ?_
  (try clear hK4 K4)
  refine wp_seq_k (fun K6 hK6 => ?_)
  refine wp_seq_k (fun K7 hK7 => ?_)
  refine wl_region ?_
  refine wl_give rfl (g_assign _ (.int .i64 (0)) rfl ?_)
  (try simp only [Act.put, List.setIfInBounds_toArray, List.set_cons_zero, List.set_cons_succ])
  refine wl_nil ?_
  refine hK7 _ _ ?_
  (try clear hK7 K7)
  refine wp_block ?_
  have h9 := ((((hM.up 3 rfl).up 3 rfl).up 2 rfl).up 3 rfl)
  refine wp_rounds (fun m st wr => ∃ (j : Nat) (v1 v2 : Value) (t : Nat → Value), st = ⟨#[.pointer (some ⟨p, 0, none⟩), .int .i64 (lo), .int .i64 (hi), undef, undef, undef, .slice none (0) (0), .slice none (0) (0), v1, v2, .int .i64 ((j : Nat) : Int), t 11, t 12, t 13, t 14, t 15, t 16, t 17, t 18, t 19, t 20, t 21, t 22, t 23, t 24, t 25, t 26, t 27, t 28, t 29, t 30, t 31, t 32, t 33, t 34, t 35, t 36, t 37, t 38, t 39, t 40, t 41, t 42, t 43, t 44, t 45, t 46, t 47, t 48, t 49, t 50, t 51, t 52, t 53, t 54, t 55, t 56, t 57, t 58, t 59, t 60, t 61, t 62, t 63, t 64, t 65, t 66], []⟩ ∧ j + m = L.length ∧ Ms w0 wr (row 9 1 v1 ((inT lo hi (L.take j)).length) ((inT lo hi (L.take j)).map Value.string) :: row 64 2 v2 ((outT lo hi (L.take j)).length) (tcs (outT lo hi (L.take j))) :: blk (p) ([.int .i64 (x), .int .i64 (y), .int .i64 (d), .slice ao (L.length) (cap)]) 44 :: row 64 2 (.slice ao (L).length cap) ((L).length) (tcs (L)) :: R)) _ ⟨0, .slice (some ⟨w.heap.size, 0, none⟩) (0) (0), .slice (some ⟨w3.heap.size, 0, none⟩) (0) (0), (tl [.pointer (some ⟨p, 0, none⟩), .int .i64 (lo), .int .i64 (hi), undef, undef, undef, .slice none (0) (0), .slice none (0) (0), .slice (some ⟨w.heap.size, 0, none⟩) (0) (0), .slice (some ⟨w3.heap.size, 0, none⟩) (0) (0), .int .i64 (0), .slice (some ⟨w.heap.size, 0, none⟩) (0) (0), .slice (some ⟨w3.heap.size, 0, none⟩) (0) (0), undef, undef, undef, undef, undef, undef, undef, undef, undef, undef, undef, undef, undef, undef, undef, undef, undef, undef, undef, undef, undef, undef, undef, undef, undef, undef, undef, undef, undef, undef, undef, undef, undef, undef, undef, undef, undef, undef, undef, undef, undef, undef, undef, undef, undef, undef, undef, undef, undef, undef, undef, undef, undef, undef]), rfl, Nat.zero_add _, h9⟩ ?_
  clear h9 hM
  rintro m st wr ⟨j, v1, v2, u, rfl, hj, hM⟩
  by_cases hlt : ((j : Nat) : Int) < ((L.length : Nat) : Int)
  · skip
    have hjl : j < L.length := by omega
    obtain ⟨t, ht⟩ : ∃ t, L[j]? = some t := ⟨_, List.getElem?_eq_getElem hjl⟩
    have b1 := inT_len lo hi L j
    have b2 := outT_len lo hi L j
    obtain ⟨g, k, hv, hM⟩ := row_sl (hM.up 3 rfl) (by omega)
    cases hv
    have hj1 : Shut (IntKind.i64.wrap (((j : Nat) : Int) + 1) = ((j + 1 : Nat) : Int)) := ⟨by rw [wrap_id _ (by omega) (by omega)]; omega⟩
    have htk : L.take (j + 1) = L.take j ++ [t] := by rw [List.take_add_one, ht]; rfl
    replace hM : Ms w0 wr (sl 64 2 g cap (L.length) (tcs L) :: row 9 1 v1 ((inT lo hi (L.take j)).length) ((inT lo hi (L.take j)).map Value.string) :: row 64 2 v2 ((outT lo hi (L.take j)).length) (tcs (outT lo hi (L.take j))) :: blk (p) ([.int .i64 (x), .int .i64 (y), .int .i64 (d), .slice (some ⟨g, 0, none⟩) (L.length) (cap)]) 44 :: R) := hM
    refine wp_seq_k (fun K8 hK8 => ?_)
    refine wp_seq_k (fun K9 hK9 => ?_)
    refine wl_region ?_
    refine wl_give rfl (g_move _ (.int .i64 (((j : Nat) : Int))) rfl ?_)
    (try simp only [Act.put, List.setIfInBounds_toArray, List.set_cons_zero, List.set_cons_succ])
    refine wl_give rfl (g_move _ (.pointer (some ⟨p, 0, none⟩)) rfl ?_)
    (try simp only [Act.put, List.setIfInBounds_toArray, List.set_cons_zero, List.set_cons_succ])
    refine wl_give rfl (g_nil _ ⟨p, 0, none⟩ rfl ?_)
    (try simp only [Act.put, List.setIfInBounds_toArray, List.set_cons_zero, List.set_cons_succ])
    refine wl_give rfl (g_fa 44 _ (p) (0) (3) 3 rfl (fa44_3 _ _ _) ?_)
    (try simp only [Act.put, List.setIfInBounds_toArray, List.set_cons_zero, List.set_cons_succ])
    refine wl_give rfl (g_ld1 42 _ (p) 3 _ rfl (ld42 _ _ _ _ ((hM.get 3 rfl).cell 3 _ rfl)) ?_)
    (try simp only [Act.put, List.setIfInBounds_toArray, List.set_cons_zero, List.set_cons_succ])
    refine wl_give rfl (g_len _ 42 64 ((some ⟨g, 0, none⟩)) (L.length) (cap) (((L.length : Nat) : Int)) Try.underlying42 rfl rfl ?_)
    (try simp only [Act.put, List.setIfInBounds_toArray, List.set_cons_zero, List.set_cons_succ])
    refine wl_give rfl (g_ilss 3 _ _ .i64 (((j : Nat) : Int)) (((L.length : Nat) : Int)) true rfl rfl (decide_eq_true hlt) ?_)
    (try simp only [Act.put, List.setIfInBounds_toArray, List.set_cons_zero, List.set_cons_succ])
    refine wl_nil ?_
    refine hK9 _ _ ?_
    (try clear hK9 K9)
    refine wp_cond_true rfl ?_
    refine wp_skip ?_
    refine hK8 _ _ ?_
    (try clear hK8 K8)
    refine wp_seq_k (fun K10 hK10 => ?_)
    refine wp_block ?_
    by_cases h1 : lo ≤ t.1
    · by_cases h2 : t.1 ≤ hi
      · skip
        have hp : pin lo hi t = true := by unfold pin; simp [h1, h2]
        refine wp_seq_k (fun K11 hK11 => ?_)
        refine wl_region ?_
        refine wl_give rfl (g_move _ (.pointer (some ⟨p, 0, none⟩)) rfl ?_)
        (try simp only [Act.put, List.setIfInBounds_toArray, List.set_cons_zero, List.set_cons_succ])
        refine wl_give rfl (g_nil _ ⟨p, 0, none⟩ rfl ?_)
        (try simp only [Act.put, List.setIfInBounds_toArray, List.set_cons_zero, List.set_cons_succ])
        refine wl_give rfl (g_fa 44 _ (p) (0) (3) 3 rfl (fa44_3 _ _ _) ?_)
        (try simp only [Act.put, List.setIfInBounds_toArray, List.set_cons_zero, List.set_cons_succ])
        refine wl_give rfl (g_ld1 42 _ (p) 3 _ rfl (ld42 _ _ _ _ ((hM.get 3 rfl).cell 3 _ rfl)) ?_)
        (try simp only [Act.put, List.setIfInBounds_toArray, List.set_cons_zero, List.set_cons_succ])
        refine wl_give rfl (g_move _ (.int .i64 (((j : Nat) : Int))) rfl ?_)
        (try simp only [Act.put, List.setIfInBounds_toArray, List.set_cons_zero, List.set_cons_succ])
        refine wl_give rfl (g_ix _ _ 42 64 2 Try.underlying42 szof64 g 0 L.length cap j (0 + j * 2) _ rfl rfl rfl hjl rfl ?_)
        (try simp only [Act.put, List.setIfInBounds_toArray, List.set_cons_zero, List.set_cons_succ])
        refine wl_give rfl (g_fa 64 _ g (0 + j * 2) (0 + j * 2) 0 rfl (fa64_0 _ _ _) ?_)
        (try simp only [Act.put, List.setIfInBounds_toArray, List.set_cons_zero, List.set_cons_succ])
        refine wl_give rfl (g_ld1 3 _ (g) (0 + j * 2) _ rfl (ld3 _ _ _ _ (by rw [Nat.zero_add]; exact sl_cell hM _ _ (tcs_at ht).1)) ?_)
        (try simp only [Act.put, List.setIfInBounds_toArray, List.set_cons_zero, List.set_cons_succ])
        refine wl_give rfl (g_move _ (.int .i64 (lo)) rfl ?_)
        (try simp only [Act.put, List.setIfInBounds_toArray, List.set_cons_zero, List.set_cons_succ])
        refine wl_give rfl (g_igeq 3 _ _ .i64 (t.1) (lo) true rfl rfl (decide_eq_true h1) ?_)
        (try simp only [Act.put, List.setIfInBounds_toArray, List.set_cons_zero, List.set_cons_succ])
        refine wl_give rfl (g_move _ (.bool true) rfl ?_)
        (try simp only [Act.put, List.setIfInBounds_toArray, List.set_cons_zero, List.set_cons_succ])
        refine wl_give rfl (g_move _ (.pointer (some ⟨p, 0, none⟩)) rfl ?_)
        (try simp only [Act.put, List.setIfInBounds_toArray, List.set_cons_zero, List.set_cons_succ])
        refine wl_give rfl (g_nil _ ⟨p, 0, none⟩ rfl ?_)
        (try simp only [Act.put, List.setIfInBounds_toArray, List.set_cons_zero, List.set_cons_succ])
        refine wl_give rfl (g_fa 44 _ (p) (0) (3) 3 rfl (fa44_3 _ _ _) ?_)
        (try simp only [Act.put, List.setIfInBounds_toArray, List.set_cons_zero, List.set_cons_succ])
        refine wl_give rfl (g_ld1 42 _ (p) 3 _ rfl (ld42 _ _ _ _ ((hM.get 3 rfl).cell 3 _ rfl)) ?_)
        (try simp only [Act.put, List.setIfInBounds_toArray, List.set_cons_zero, List.set_cons_succ])
        refine wl_give rfl (g_move _ (.int .i64 (((j : Nat) : Int))) rfl ?_)
        (try simp only [Act.put, List.setIfInBounds_toArray, List.set_cons_zero, List.set_cons_succ])
        refine wl_give rfl (g_ix _ _ 42 64 2 Try.underlying42 szof64 g 0 L.length cap j (0 + j * 2) _ rfl rfl rfl hjl rfl ?_)
        (try simp only [Act.put, List.setIfInBounds_toArray, List.set_cons_zero, List.set_cons_succ])
        refine wl_give rfl (g_fa 64 _ g (0 + j * 2) (0 + j * 2) 0 rfl (fa64_0 _ _ _) ?_)
        (try simp only [Act.put, List.setIfInBounds_toArray, List.set_cons_zero, List.set_cons_succ])
        refine wl_give rfl (g_ld1 3 _ (g) (0 + j * 2) _ rfl (ld3 _ _ _ _ (by rw [Nat.zero_add]; exact sl_cell hM _ _ (tcs_at ht).1)) ?_)
        (try simp only [Act.put, List.setIfInBounds_toArray, List.set_cons_zero, List.set_cons_succ])
        refine wl_give rfl (g_move _ (.int .i64 (hi)) rfl ?_)
        (try simp only [Act.put, List.setIfInBounds_toArray, List.set_cons_zero, List.set_cons_succ])
        refine wl_give rfl (g_ileq 3 _ _ .i64 (t.1) (hi) true rfl rfl (decide_eq_true h2) ?_)
        (try simp only [Act.put, List.setIfInBounds_toArray, List.set_cons_zero, List.set_cons_succ])
        refine wl_give rfl (g_pickt _ _ _ (.bool true) rfl rfl ?_)
        (try simp only [Act.put, List.setIfInBounds_toArray, List.set_cons_zero, List.set_cons_succ])
        refine wl_nil ?_
        refine hK11 _ _ ?_
        (try clear hK11 K11)
        refine wp_cond_true rfl ?_
        refine wl_region ?_
        refine wl_give rfl (g_move _ (v1) rfl ?_)
        (try simp only [Act.put, List.setIfInBounds_toArray, List.set_cons_zero, List.set_cons_succ])
        refine wl_give rfl (g_move _ (.pointer (some ⟨p, 0, none⟩)) rfl ?_)
        (try simp only [Act.put, List.setIfInBounds_toArray, List.set_cons_zero, List.set_cons_succ])
        refine wl_give rfl (g_nil _ ⟨p, 0, none⟩ rfl ?_)
        (try simp only [Act.put, List.setIfInBounds_toArray, List.set_cons_zero, List.set_cons_succ])
        refine wl_give rfl (g_fa 44 _ (p) (0) (3) 3 rfl (fa44_3 _ _ _) ?_)
        (try simp only [Act.put, List.setIfInBounds_toArray, List.set_cons_zero, List.set_cons_succ])
        refine wl_give rfl (g_ld1 42 _ (p) 3 _ rfl (ld42 _ _ _ _ ((hM.get 3 rfl).cell 3 _ rfl)) ?_)
        (try simp only [Act.put, List.setIfInBounds_toArray, List.set_cons_zero, List.set_cons_succ])
        refine wl_give rfl (g_move _ (.int .i64 (((j : Nat) : Int))) rfl ?_)
        (try simp only [Act.put, List.setIfInBounds_toArray, List.set_cons_zero, List.set_cons_succ])
        refine wl_give rfl (g_ix _ _ 42 64 2 Try.underlying42 szof64 g 0 L.length cap j (0 + j * 2) _ rfl rfl rfl hjl rfl ?_)
        (try simp only [Act.put, List.setIfInBounds_toArray, List.set_cons_zero, List.set_cons_succ])
        refine wl_give rfl (g_fa 64 _ g (0 + j * 2) (0 + j * 2 + 1) 1 rfl (fa64_1 _ _ _) ?_)
        (try simp only [Act.put, List.setIfInBounds_toArray, List.set_cons_zero, List.set_cons_succ])
        refine wl_give rfl (g_ld1 9 _ (g) (0 + j * 2 + 1) _ rfl (ld9 _ _ _ _ (by rw [Nat.zero_add]; exact sl_cell hM _ _ (tcs_at ht).2)) ?_)
        (try simp only [Act.put, List.setIfInBounds_toArray, List.set_cons_zero, List.set_cons_succ])
        refine wl_give rfl (g_bs1 36 9 Try.underlying36 szof9 _ Try.zeroValue9 rfl _ (.string (t.2)) rfl rfl hM ?_)
        intro w12 h_
        replace hM : Ms w0 w12 (blk (wr.heap.size) [.string (t.2)] 9 :: sl 64 2 g cap (L.length) (tcs L) :: row 9 1 v1 ((inT lo hi (L.take j)).length) ((inT lo hi (L.take j)).map Value.string) :: row 64 2 v2 ((outT lo hi (L.take j)).length) (tcs (outT lo hi (L.take j))) :: blk (p) ([.int .i64 (x), .int .i64 (y), .int .i64 (d), .slice (some ⟨g, 0, none⟩) (L.length) (cap)]) 44 :: R) := h_
        clear h_
        (try simp only [Act.put, List.setIfInBounds_toArray, List.set_cons_zero, List.set_cons_succ])
        refine wl_give rfl (g_apS _ _ (v1) ((inT lo hi (L.take j)).length) ((inT lo hi (L.take j)).map Value.string) (wr.heap.size) 1 ([.string (t.2)]) 9 rfl rfl (show Ms w0 w12 (row 9 1 v1 ((inT lo hi (L.take j)).length) ((inT lo hi (L.take j)).map Value.string) :: blk (wr.heap.size) [.string (t.2)] 9 :: sl 64 2 g cap (L.length) (tcs L) :: row 64 2 v2 ((outT lo hi (L.take j)).length) (tcs (outT lo hi (L.take j))) :: blk (p) ([.int .i64 (x), .int .i64 (y), .int .i64 (d), .slice (some ⟨g, 0, none⟩) (L.length) (cap)]) 44 :: R) from (hM.up 2 rfl)) rfl (by simp [Value.oneCell']) (by omega) ?_)
        intro v14 w13 h_
        replace hM : Ms w0 w13 (row 9 1 v14 ((inT lo hi (L.take j)).length + 1) ((inT lo hi (L.take j)).map Value.string ++ [.string (t.2)]) :: blk (wr.heap.size) [.string (t.2)] 9 :: sl 64 2 g cap (L.length) (tcs L) :: row 64 2 v2 ((outT lo hi (L.take j)).length) (tcs (outT lo hi (L.take j))) :: blk (p) ([.int .i64 (x), .int .i64 (y), .int .i64 (d), .slice (some ⟨g, 0, none⟩) (L.length) (cap)]) 44 :: R) := h_
        clear h_
        (try simp only [Act.put, List.setIfInBounds_toArray, List.set_cons_zero, List.set_cons_succ])
        refine wl_give rfl (g_assign _ (v14) rfl ?_)
        (try simp only [Act.put, List.setIfInBounds_toArray, List.set_cons_zero, List.set_cons_succ])
        refine wl_nil ?_
        refine hK10 _ _ ?_
        (try clear hK10 K10)
        refine wl_region ?_
        refine wl_give rfl (g_move _ (.int .i64 (((j : Nat) : Int))) rfl ?_)
        (try simp only [Act.put, List.setIfInBounds_toArray, List.set_cons_zero, List.set_cons_succ])
        refine wl_give rfl (g_ia 3 _ _ .i64 (((j : Nat) : Int)) (1) (((j + 1 : Nat) : Int)) rfl rfl (hj1.out) ?_)
        (try simp only [Act.put, List.setIfInBounds_toArray, List.set_cons_zero, List.set_cons_succ])
        refine wl_give rfl (g_assign _ (.int .i64 (((j + 1 : Nat) : Int))) rfl ?_)
        (try simp only [Act.put, List.setIfInBounds_toArray, List.set_cons_zero, List.set_cons_succ])
        refine wl_nil ?_
        (try simp only [Exit.then, Exit.inBlock, ↓reduceIte, Nat.reduceEqDiff])
        have h9 := (((((hM.up 1 rfl).up 4 rfl).up 4 rfl).up 3 rfl).up 4 rfl)
        have h10 := ((sl_row h9).erase 4).up 0 rfl
        have h11 := ((h10.up 3 rfl).up 3 rfl).up 3 rfl
        refine ⟨m - 1, by omega, j + 1, v14, v2, (tl [.pointer (some ⟨p, 0, none⟩), .int .i64 (lo), .int .i64 (hi), undef, undef, undef, .slice none (0) (0), .slice none (0) (0), v14, v2, .int .i64 (((j + 1 : Nat) : Int)), u 11, u 12, .int .i64 (((j : Nat) : Int)), .pointer (some ⟨p, 0, none⟩), .pointer (some ⟨p, 0, none⟩), .pointer (some ⟨p, 3, none⟩), .slice (some ⟨g, 0, none⟩) (L.length) (cap), .int .i64 (((L.length : Nat) : Int)), .bool true, .int .i64 (((j : Nat) : Int)), .int .i64 (((j + 1 : Nat) : Int)), .pointer (some ⟨p, 0, none⟩), .pointer (some ⟨p, 0, none⟩), .pointer (some ⟨p, 3, none⟩), .slice (some ⟨g, 0, none⟩) (L.length) (cap), .int .i64 (((j : Nat) : Int)), .pointer (some ⟨g, 0 + j * 2, none⟩), .pointer (some ⟨g, 0 + j * 2, none⟩), .int .i64 (t.1), .int .i64 (lo), .bool true, .bool true, .pointer (some ⟨p, 0, none⟩), .pointer (some ⟨p, 0, none⟩), .pointer (some ⟨p, 3, none⟩), .slice (some ⟨g, 0, none⟩) (L.length) (cap), .int .i64 (((j : Nat) : Int)), .pointer (some ⟨g, 0 + j * 2, none⟩), .pointer (some ⟨g, 0 + j * 2, none⟩), .int .i64 (t.1), .int .i64 (hi), .bool true, .bool true, v1, .pointer (some ⟨p, 0, none⟩), .pointer (some ⟨p, 0, none⟩), .pointer (some ⟨p, 3, none⟩), .slice (some ⟨g, 0, none⟩) (L.length) (cap), .int .i64 (((j : Nat) : Int)), .pointer (some ⟨g, 0 + j * 2, none⟩), .pointer (some ⟨g, 0 + j * 2 + 1, none⟩), .string (t.2), .slice (some ⟨wr.heap.size, 0, none⟩) (1) (1), v14, u 55, u 56, u 57, u 58, u 59, u 60, u 61, u 62, u 63, u 64, u 65, u 66]), rfl, by omega, ?_⟩
        rw [htk, inT_in hp, outT_in hp, List.length_append, List.map_append]
        exact h11
      · skip
        have hp : pin lo hi t = false := by unfold pin; simp [h1, h2]
        refine wp_seq_k (fun K15 hK15 => ?_)
        refine wl_region ?_
        refine wl_give rfl (g_move _ (.pointer (some ⟨p, 0, none⟩)) rfl ?_)
        (try simp only [Act.put, List.setIfInBounds_toArray, List.set_cons_zero, List.set_cons_succ])
        refine wl_give rfl (g_nil _ ⟨p, 0, none⟩ rfl ?_)
        (try simp only [Act.put, List.setIfInBounds_toArray, List.set_cons_zero, List.set_cons_succ])
        refine wl_give rfl (g_fa 44 _ (p) (0) (3) 3 rfl (fa44_3 _ _ _) ?_)
        (try simp only [Act.put, List.setIfInBounds_toArray, List.set_cons_zero, List.set_cons_succ])
        refine wl_give rfl (g_ld1 42 _ (p) 3 _ rfl (ld42 _ _ _ _ ((hM.get 3 rfl).cell 3 _ rfl)) ?_)
        (try simp only [Act.put, List.setIfInBounds_toArray, List.set_cons_zero, List.set_cons_succ])
        refine wl_give rfl (g_move _ (.int .i64 (((j : Nat) : Int))) rfl ?_)
        (try simp only [Act.put, List.setIfInBounds_toArray, List.set_cons_zero, List.set_cons_succ])
        refine wl_give rfl (g_ix _ _ 42 64 2 Try.underlying42 szof64 g 0 L.length cap j (0 + j * 2) _ rfl rfl rfl hjl rfl ?_)
        (try simp only [Act.put, List.setIfInBounds_toArray, List.set_cons_zero, List.set_cons_succ])
        refine wl_give rfl (g_fa 64 _ g (0 + j * 2) (0 + j * 2) 0 rfl (fa64_0 _ _ _) ?_)
        (try simp only [Act.put, List.setIfInBounds_toArray, List.set_cons_zero, List.set_cons_succ])
        refine wl_give rfl (g_ld1 3 _ (g) (0 + j * 2) _ rfl (ld3 _ _ _ _ (by rw [Nat.zero_add]; exact sl_cell hM _ _ (tcs_at ht).1)) ?_)
        (try simp only [Act.put, List.setIfInBounds_toArray, List.set_cons_zero, List.set_cons_succ])
        refine wl_give rfl (g_move _ (.int .i64 (lo)) rfl ?_)
        (try simp only [Act.put, List.setIfInBounds_toArray, List.set_cons_zero, List.set_cons_succ])
        refine wl_give rfl (g_igeq 3 _ _ .i64 (t.1) (lo) true rfl rfl (decide_eq_true h1) ?_)
        (try simp only [Act.put, List.setIfInBounds_toArray, List.set_cons_zero, List.set_cons_succ])
        refine wl_give rfl (g_move _ (.bool true) rfl ?_)
        (try simp only [Act.put, List.setIfInBounds_toArray, List.set_cons_zero, List.set_cons_succ])
        refine wl_give rfl (g_move _ (.pointer (some ⟨p, 0, none⟩)) rfl ?_)
        (try simp only [Act.put, List.setIfInBounds_toArray, List.set_cons_zero, List.set_cons_succ])
        refine wl_give rfl (g_nil _ ⟨p, 0, none⟩ rfl ?_)
        (try simp only [Act.put, List.setIfInBounds_toArray, List.set_cons_zero, List.set_cons_succ])
        refine wl_give rfl (g_fa 44 _ (p) (0) (3) 3 rfl (fa44_3 _ _ _) ?_)
        (try simp only [Act.put, List.setIfInBounds_toArray, List.set_cons_zero, List.set_cons_succ])
        refine wl_give rfl (g_ld1 42 _ (p) 3 _ rfl (ld42 _ _ _ _ ((hM.get 3 rfl).cell 3 _ rfl)) ?_)
        (try simp only [Act.put, List.setIfInBounds_toArray, List.set_cons_zero, List.set_cons_succ])
        refine wl_give rfl (g_move _ (.int .i64 (((j : Nat) : Int))) rfl ?_)
        (try simp only [Act.put, List.setIfInBounds_toArray, List.set_cons_zero, List.set_cons_succ])
        refine wl_give rfl (g_ix _ _ 42 64 2 Try.underlying42 szof64 g 0 L.length cap j (0 + j * 2) _ rfl rfl rfl hjl rfl ?_)
        (try simp only [Act.put, List.setIfInBounds_toArray, List.set_cons_zero, List.set_cons_succ])
        refine wl_give rfl (g_fa 64 _ g (0 + j * 2) (0 + j * 2) 0 rfl (fa64_0 _ _ _) ?_)
        (try simp only [Act.put, List.setIfInBounds_toArray, List.set_cons_zero, List.set_cons_succ])
        refine wl_give rfl (g_ld1 3 _ (g) (0 + j * 2) _ rfl (ld3 _ _ _ _ (by rw [Nat.zero_add]; exact sl_cell hM _ _ (tcs_at ht).1)) ?_)
        (try simp only [Act.put, List.setIfInBounds_toArray, List.set_cons_zero, List.set_cons_succ])
        refine wl_give rfl (g_move _ (.int .i64 (hi)) rfl ?_)
        (try simp only [Act.put, List.setIfInBounds_toArray, List.set_cons_zero, List.set_cons_succ])
        refine wl_give rfl (g_ileq 3 _ _ .i64 (t.1) (hi) false rfl rfl (decide_eq_false h2) ?_)
        (try simp only [Act.put, List.setIfInBounds_toArray, List.set_cons_zero, List.set_cons_succ])
        refine wl_give rfl (g_pickt _ _ _ (.bool false) rfl rfl ?_)
        (try simp only [Act.put, List.setIfInBounds_toArray, List.set_cons_zero, List.set_cons_succ])
        refine wl_nil ?_
        refine hK15 _ _ ?_
        (try clear hK15 K15)
        refine wp_cond_false rfl ?_
        refine wl_region ?_
        refine wl_give rfl (g_move _ (v2) rfl ?_)
        (try simp only [Act.put, List.setIfInBounds_toArray, List.set_cons_zero, List.set_cons_succ])
        refine wl_give rfl (g_move _ (.pointer (some ⟨p, 0, none⟩)) rfl ?_)
        (try simp only [Act.put, List.setIfInBounds_toArray, List.set_cons_zero, List.set_cons_succ])
        refine wl_give rfl (g_nil _ ⟨p, 0, none⟩ rfl ?_)
        (try simp only [Act.put, List.setIfInBounds_toArray, List.set_cons_zero, List.set_cons_succ])
        refine wl_give rfl (g_fa 44 _ (p) (0) (3) 3 rfl (fa44_3 _ _ _) ?_)
        (try simp only [Act.put, List.setIfInBounds_toArray, List.set_cons_zero, List.set_cons_succ])
        refine wl_give rfl (g_ld1 42 _ (p) 3 _ rfl (ld42 _ _ _ _ ((hM.get 3 rfl).cell 3 _ rfl)) ?_)
        (try simp only [Act.put, List.setIfInBounds_toArray, List.set_cons_zero, List.set_cons_succ])
        refine wl_give rfl (g_move _ (.int .i64 (((j : Nat) : Int))) rfl ?_)
        (try simp only [Act.put, List.setIfInBounds_toArray, List.set_cons_zero, List.set_cons_succ])
        refine wl_give rfl (g_ix _ _ 42 64 2 Try.underlying42 szof64 g 0 L.length cap j (0 + j * 2) _ rfl rfl rfl hjl rfl ?_)
        (try simp only [Act.put, List.setIfInBounds_toArray, List.set_cons_zero, List.set_cons_succ])
        refine wl_give rfl (g_ldTh _ (g) (0 + j * 2) t rfl (by rw [Nat.zero_add]; exact sl_cell hM _ _ (tcs_at ht).1) (by rw [Nat.zero_add]; exact sl_cell hM _ _ (tcs_at ht).2) ?_)
        (try simp only [Act.put, List.setIfInBounds_toArray, List.set_cons_zero, List.set_cons_succ])
        refine wl_give rfl (g_bs64 _ (t.1, t.2) rfl hM ?_)
        intro w16 h_
        replace hM : Ms w0 w16 (blk (wr.heap.size) (tc (t.1, t.2)) 64 :: sl 64 2 g cap (L.length) (tcs L) :: row 9 1 v1 ((inT lo hi (L.take j)).length) ((inT lo hi (L.take j)).map Value.string) :: row 64 2 v2 ((outT lo hi (L.take j)).length) (tcs (outT lo hi (L.take j))) :: blk (p) ([.int .i64 (x), .int .i64 (y), .int .i64 (d), .slice (some ⟨g, 0, none⟩) (L.length) (cap)]) 44 :: R) := h_
        clear h_
        (try simp only [Act.put, List.setIfInBounds_toArray, List.set_cons_zero, List.set_cons_succ])
        refine wl_give rfl (g_apT _ _ (v2) ((outT lo hi (L.take j)).length) (tcs (outT lo hi (L.take j))) (wr.heap.size) 1 (tc (t.1, t.2)) 64 rfl rfl (show Ms w0 w16 (row 64 2 v2 ((outT lo hi (L.take j)).length) (tcs (outT lo hi (L.take j))) :: blk (wr.heap.size) (tc (t.1, t.2)) 64 :: sl 64 2 g cap (L.length) (tcs L) :: row 9 1 v1 ((inT lo hi (L.take j)).length) ((inT lo hi (L.take j)).map Value.string) :: blk (p) ([.int .i64 (x), .int .i64 (y), .int .i64 (d), .slice (some ⟨g, 0, none⟩) (L.length) (cap)]) 44 :: R) from (hM.up 3 rfl)) rfl (by simp [tc, Value.oneCell']) (by omega) ?_)
        intro v18 w17 h_
        replace hM : Ms w0 w17 (row 64 2 v18 ((outT lo hi (L.take j)).length + 1) (tcs (outT lo hi (L.take j)) ++ tc (t.1, t.2)) :: blk (wr.heap.size) (tc (t.1, t.2)) 64 :: sl 64 2 g cap (L.length) (tcs L) :: row 9 1 v1 ((inT lo hi (L.take j)).length) ((inT lo hi (L.take j)).map Value.string) :: blk (p) ([.int .i64 (x), .int .i64 (y), .int .i64 (d), .slice (some ⟨g, 0, none⟩) (L.length) (cap)]) 44 :: R) := h_
        clear h_
        (try simp only [Act.put, List.setIfInBounds_toArray, List.set_cons_zero, List.set_cons_succ])
        refine wl_give rfl (g_assign _ (v18) rfl ?_)
        (try simp only [Act.put, List.setIfInBounds_toArray, List.set_cons_zero, List.set_cons_succ])
        refine wl_nil ?_
        refine hK10 _ _ ?_
        (try clear hK10 K10)
        refine wl_region ?_
        refine wl_give rfl (g_move _ (.int .i64 (((j : Nat) : Int))) rfl ?_)
        (try simp only [Act.put, List.setIfInBounds_toArray, List.set_cons_zero, List.set_cons_succ])
        refine wl_give rfl (g_ia 3 _ _ .i64 (((j : Nat) : Int)) (1) (((j + 1 : Nat) : Int)) rfl rfl (hj1.out) ?_)
        (try simp only [Act.put, List.setIfInBounds_toArray, List.set_cons_zero, List.set_cons_succ])
        refine wl_give rfl (g_assign _ (.int .i64 (((j + 1 : Nat) : Int))) rfl ?_)
        (try simp only [Act.put, List.setIfInBounds_toArray, List.set_cons_zero, List.set_cons_succ])
        refine wl_nil ?_
        (try simp only [Exit.then, Exit.inBlock, ↓reduceIte, Nat.reduceEqDiff])
        have h9 := (((((hM.up 1 rfl).up 4 rfl).up 2 rfl).up 4 rfl).up 4 rfl)
        have h10 := ((sl_row h9).erase 4).up 0 rfl
        have h11 := ((h10.up 3 rfl).up 3 rfl).up 3 rfl
        refine ⟨m - 1, by omega, j + 1, v1, v18, (tl [.pointer (some ⟨p, 0, none⟩), .int .i64 (lo), .int .i64 (hi), undef, undef, undef, .slice none (0) (0), .slice none (0) (0), v1, v18, .int .i64 (((j + 1 : Nat) : Int)), u 11, u 12, .int .i64 (((j : Nat) : Int)), .pointer (some ⟨p, 0, none⟩), .pointer (some ⟨p, 0, none⟩), .pointer (some ⟨p, 3, none⟩), .slice (some ⟨g, 0, none⟩) (L.length) (cap), .int .i64 (((L.length : Nat) : Int)), .bool true, .int .i64 (((j : Nat) : Int)), .int .i64 (((j + 1 : Nat) : Int)), .pointer (some ⟨p, 0, none⟩), .pointer (some ⟨p, 0, none⟩), .pointer (some ⟨p, 3, none⟩), .slice (some ⟨g, 0, none⟩) (L.length) (cap), .int .i64 (((j : Nat) : Int)), .pointer (some ⟨g, 0 + j * 2, none⟩), .pointer (some ⟨g, 0 + j * 2, none⟩), .int .i64 (t.1), .int .i64 (lo), .bool true, .bool true, .pointer (some ⟨p, 0, none⟩), .pointer (some ⟨p, 0, none⟩), .pointer (some ⟨p, 3, none⟩), .slice (some ⟨g, 0, none⟩) (L.length) (cap), .int .i64 (((j : Nat) : Int)), .pointer (some ⟨g, 0 + j * 2, none⟩), .pointer (some ⟨g, 0 + j * 2, none⟩), .int .i64 (t.1), .int .i64 (hi), .bool false, .bool false, u 44, u 45, u 46, u 47, u 48, u 49, u 50, u 51, u 52, u 53, u 54, v2, .pointer (some ⟨p, 0, none⟩), .pointer (some ⟨p, 0, none⟩), .pointer (some ⟨p, 3, none⟩), .slice (some ⟨g, 0, none⟩) (L.length) (cap), .int .i64 (((j : Nat) : Int)), .pointer (some ⟨g, 0 + j * 2, none⟩), .agg (tc (t.1, t.2)).toArray, .slice (some ⟨wr.heap.size, 0, none⟩) (1) (1), v18, u 65, u 66]), rfl, by omega, ?_⟩
        rw [htk, inT_out hp, outT_out hp, List.length_append, tcs_snoc]
        exact h11
    · skip
      have hp : pin lo hi t = false := by unfold pin; simp [h1]
      refine wp_seq_k (fun K19 hK19 => ?_)
      refine wl_region ?_
      refine wl_give rfl (g_move _ (.pointer (some ⟨p, 0, none⟩)) rfl ?_)
      (try simp only [Act.put, List.setIfInBounds_toArray, List.set_cons_zero, List.set_cons_succ])
      refine wl_give rfl (g_nil _ ⟨p, 0, none⟩ rfl ?_)
      (try simp only [Act.put, List.setIfInBounds_toArray, List.set_cons_zero, List.set_cons_succ])
      refine wl_give rfl (g_fa 44 _ (p) (0) (3) 3 rfl (fa44_3 _ _ _) ?_)
      (try simp only [Act.put, List.setIfInBounds_toArray, List.set_cons_zero, List.set_cons_succ])
      refine wl_give rfl (g_ld1 42 _ (p) 3 _ rfl (ld42 _ _ _ _ ((hM.get 3 rfl).cell 3 _ rfl)) ?_)
      (try simp only [Act.put, List.setIfInBounds_toArray, List.set_cons_zero, List.set_cons_succ])
      refine wl_give rfl (g_move _ (.int .i64 (((j : Nat) : Int))) rfl ?_)
      (try simp only [Act.put, List.setIfInBounds_toArray, List.set_cons_zero, List.set_cons_succ])
      refine wl_give rfl (g_ix _ _ 42 64 2 Try.underlying42 szof64 g 0 L.length cap j (0 + j * 2) _ rfl rfl rfl hjl rfl ?_)
      (try simp only [Act.put, List.setIfInBounds_toArray, List.set_cons_zero, List.set_cons_succ])
      refine wl_give rfl (g_fa 64 _ g (0 + j * 2) (0 + j * 2) 0 rfl (fa64_0 _ _ _) ?_)
      (try simp only [Act.put, List.setIfInBounds_toArray, List.set_cons_zero, List.set_cons_succ])
      refine wl_give rfl (g_ld1 3 _ (g) (0 + j * 2) _ rfl (ld3 _ _ _ _ (by rw [Nat.zero_add]; exact sl_cell hM _ _ (tcs_at ht).1)) ?_)
      (try simp only [Act.put, List.setIfInBounds_toArray, List.set_cons_zero, List.set_cons_succ])
      refine wl_give rfl (g_move _ (.int .i64 (lo)) rfl ?_)
      (try simp only [Act.put, List.setIfInBounds_toArray, List.set_cons_zero, List.set_cons_succ])
      refine wl_give rfl (g_igeq 3 _ _ .i64 (t.1) (lo) false rfl rfl (decide_eq_false h1) ?_)
      (try simp only [Act.put, List.setIfInBounds_toArray, List.set_cons_zero, List.set_cons_succ])
      refine wl_give rfl (g_move _ (.bool false) rfl ?_)
      (try simp only [Act.put, List.setIfInBounds_toArray, List.set_cons_zero, List.set_cons_succ])
      refine wl_skip rfl ?_
      (try simp only [Act.put, List.setIfInBounds_toArray, List.set_cons_zero, List.set_cons_succ])
      refine wl_skip rfl ?_
      (try simp only [Act.put, List.setIfInBounds_toArray, List.set_cons_zero, List.set_cons_succ])
      refine wl_skip rfl ?_
      (try simp only [Act.put, List.setIfInBounds_toArray, List.set_cons_zero, List.set_cons_succ])
      refine wl_skip rfl ?_
      (try simp only [Act.put, List.setIfInBounds_toArray, List.set_cons_zero, List.set_cons_succ])
      refine wl_skip rfl ?_
      (try simp only [Act.put, List.setIfInBounds_toArray, List.set_cons_zero, List.set_cons_succ])
      refine wl_skip rfl ?_
      (try simp only [Act.put, List.setIfInBounds_toArray, List.set_cons_zero, List.set_cons_succ])
      refine wl_skip rfl ?_
      (try simp only [Act.put, List.setIfInBounds_toArray, List.set_cons_zero, List.set_cons_succ])
      refine wl_skip rfl ?_
      (try simp only [Act.put, List.setIfInBounds_toArray, List.set_cons_zero, List.set_cons_succ])
      refine wl_skip rfl ?_
      (try simp only [Act.put, List.setIfInBounds_toArray, List.set_cons_zero, List.set_cons_succ])
      refine wl_skip rfl ?_
      (try simp only [Act.put, List.setIfInBounds_toArray, List.set_cons_zero, List.set_cons_succ])
      refine wl_give rfl (g_pickf _ _ _ (.bool false) rfl rfl ?_)
      (try simp only [Act.put, List.setIfInBounds_toArray, List.set_cons_zero, List.set_cons_succ])
      refine wl_nil ?_
      refine hK19 _ _ ?_
      (try clear hK19 K19)
      refine wp_cond_false rfl ?_
      refine wl_region ?_
      refine wl_give rfl (g_move _ (v2) rfl ?_)
      (try simp only [Act.put, List.setIfInBounds_toArray, List.set_cons_zero, List.set_cons_succ])
      refine wl_give rfl (g_move _ (.pointer (some ⟨p, 0, none⟩)) rfl ?_)
      (try simp only [Act.put, List.setIfInBounds_toArray, List.set_cons_zero, List.set_cons_succ])
      refine wl_give rfl (g_nil _ ⟨p, 0, none⟩ rfl ?_)
      (try simp only [Act.put, List.setIfInBounds_toArray, List.set_cons_zero, List.set_cons_succ])
      refine wl_give rfl (g_fa 44 _ (p) (0) (3) 3 rfl (fa44_3 _ _ _) ?_)
      (try simp only [Act.put, List.setIfInBounds_toArray, List.set_cons_zero, List.set_cons_succ])
      refine wl_give rfl (g_ld1 42 _ (p) 3 _ rfl (ld42 _ _ _ _ ((hM.get 3 rfl).cell 3 _ rfl)) ?_)
      (try simp only [Act.put, List.setIfInBounds_toArray, List.set_cons_zero, List.set_cons_succ])
      refine wl_give rfl (g_move _ (.int .i64 (((j : Nat) : Int))) rfl ?_)
      (try simp only [Act.put, List.setIfInBounds_toArray, List.set_cons_zero, List.set_cons_succ])
      refine wl_give rfl (g_ix _ _ 42 64 2 Try.underlying42 szof64 g 0 L.length cap j (0 + j * 2) _ rfl rfl rfl hjl rfl ?_)
      (try simp only [Act.put, List.setIfInBounds_toArray, List.set_cons_zero, List.set_cons_succ])
      refine wl_give rfl (g_ldTh _ (g) (0 + j * 2) t rfl (by rw [Nat.zero_add]; exact sl_cell hM _ _ (tcs_at ht).1) (by rw [Nat.zero_add]; exact sl_cell hM _ _ (tcs_at ht).2) ?_)
      (try simp only [Act.put, List.setIfInBounds_toArray, List.set_cons_zero, List.set_cons_succ])
      refine wl_give rfl (g_bs64 _ (t.1, t.2) rfl hM ?_)
      intro w20 h_
      replace hM : Ms w0 w20 (blk (wr.heap.size) (tc (t.1, t.2)) 64 :: sl 64 2 g cap (L.length) (tcs L) :: row 9 1 v1 ((inT lo hi (L.take j)).length) ((inT lo hi (L.take j)).map Value.string) :: row 64 2 v2 ((outT lo hi (L.take j)).length) (tcs (outT lo hi (L.take j))) :: blk (p) ([.int .i64 (x), .int .i64 (y), .int .i64 (d), .slice (some ⟨g, 0, none⟩) (L.length) (cap)]) 44 :: R) := h_
      clear h_
      (try simp only [Act.put, List.setIfInBounds_toArray, List.set_cons_zero, List.set_cons_succ])
      refine wl_give rfl (g_apT _ _ (v2) ((outT lo hi (L.take j)).length) (tcs (outT lo hi (L.take j))) (wr.heap.size) 1 (tc (t.1, t.2)) 64 rfl rfl (show Ms w0 w20 (row 64 2 v2 ((outT lo hi (L.take j)).length) (tcs (outT lo hi (L.take j))) :: blk (wr.heap.size) (tc (t.1, t.2)) 64 :: sl 64 2 g cap (L.length) (tcs L) :: row 9 1 v1 ((inT lo hi (L.take j)).length) ((inT lo hi (L.take j)).map Value.string) :: blk (p) ([.int .i64 (x), .int .i64 (y), .int .i64 (d), .slice (some ⟨g, 0, none⟩) (L.length) (cap)]) 44 :: R) from (hM.up 3 rfl)) rfl (by simp [tc, Value.oneCell']) (by omega) ?_)
      intro v22 w21 h_
      replace hM : Ms w0 w21 (row 64 2 v22 ((outT lo hi (L.take j)).length + 1) (tcs (outT lo hi (L.take j)) ++ tc (t.1, t.2)) :: blk (wr.heap.size) (tc (t.1, t.2)) 64 :: sl 64 2 g cap (L.length) (tcs L) :: row 9 1 v1 ((inT lo hi (L.take j)).length) ((inT lo hi (L.take j)).map Value.string) :: blk (p) ([.int .i64 (x), .int .i64 (y), .int .i64 (d), .slice (some ⟨g, 0, none⟩) (L.length) (cap)]) 44 :: R) := h_
      clear h_
      (try simp only [Act.put, List.setIfInBounds_toArray, List.set_cons_zero, List.set_cons_succ])
      refine wl_give rfl (g_assign _ (v22) rfl ?_)
      (try simp only [Act.put, List.setIfInBounds_toArray, List.set_cons_zero, List.set_cons_succ])
      refine wl_nil ?_
      refine hK10 _ _ ?_
      (try clear hK10 K10)
      refine wl_region ?_
      refine wl_give rfl (g_move _ (.int .i64 (((j : Nat) : Int))) rfl ?_)
      (try simp only [Act.put, List.setIfInBounds_toArray, List.set_cons_zero, List.set_cons_succ])
      refine wl_give rfl (g_ia 3 _ _ .i64 (((j : Nat) : Int)) (1) (((j + 1 : Nat) : Int)) rfl rfl (hj1.out) ?_)
      (try simp only [Act.put, List.setIfInBounds_toArray, List.set_cons_zero, List.set_cons_succ])
      refine wl_give rfl (g_assign _ (.int .i64 (((j + 1 : Nat) : Int))) rfl ?_)
      (try simp only [Act.put, List.setIfInBounds_toArray, List.set_cons_zero, List.set_cons_succ])
      refine wl_nil ?_
      (try simp only [Exit.then, Exit.inBlock, ↓reduceIte, Nat.reduceEqDiff])
      have h9 := (((((hM.up 1 rfl).up 4 rfl).up 2 rfl).up 4 rfl).up 4 rfl)
      have h10 := ((sl_row h9).erase 4).up 0 rfl
      have h11 := ((h10.up 3 rfl).up 3 rfl).up 3 rfl
      refine ⟨m - 1, by omega, j + 1, v1, v22, (tl [.pointer (some ⟨p, 0, none⟩), .int .i64 (lo), .int .i64 (hi), undef, undef, undef, .slice none (0) (0), .slice none (0) (0), v1, v22, .int .i64 (((j + 1 : Nat) : Int)), u 11, u 12, .int .i64 (((j : Nat) : Int)), .pointer (some ⟨p, 0, none⟩), .pointer (some ⟨p, 0, none⟩), .pointer (some ⟨p, 3, none⟩), .slice (some ⟨g, 0, none⟩) (L.length) (cap), .int .i64 (((L.length : Nat) : Int)), .bool true, .int .i64 (((j : Nat) : Int)), .int .i64 (((j + 1 : Nat) : Int)), .pointer (some ⟨p, 0, none⟩), .pointer (some ⟨p, 0, none⟩), .pointer (some ⟨p, 3, none⟩), .slice (some ⟨g, 0, none⟩) (L.length) (cap), .int .i64 (((j : Nat) : Int)), .pointer (some ⟨g, 0 + j * 2, none⟩), .pointer (some ⟨g, 0 + j * 2, none⟩), .int .i64 (t.1), .int .i64 (lo), .bool false, .bool false, undef, undef, undef, undef, undef, undef, undef, undef, undef, undef, .bool false, u 44, u 45, u 46, u 47, u 48, u 49, u 50, u 51, u 52, u 53, u 54, v2, .pointer (some ⟨p, 0, none⟩), .pointer (some ⟨p, 0, none⟩), .pointer (some ⟨p, 3, none⟩), .slice (some ⟨g, 0, none⟩) (L.length) (cap), .int .i64 (((j : Nat) : Int)), .pointer (some ⟨g, 0 + j * 2, none⟩), .agg (tc (t.1, t.2)).toArray, .slice (some ⟨wr.heap.size, 0, none⟩) (1) (1), v22, u 65, u 66]), rfl, by omega, ?_⟩
      rw [htk, inT_out hp, outT_out hp, List.length_append, tcs_snoc]
      exact h11
  · have hjn : j = L.length := by omega
    refine wp_seq_k (fun K23 hK23 => ?_)
    refine wp_seq_k (fun K24 hK24 => ?_)
    refine wl_region ?_
    refine wl_give rfl (g_move _ (.int .i64 (((j : Nat) : Int))) rfl ?_)
    (try simp only [Act.put, List.setIfInBounds_toArray, List.set_cons_zero, List.set_cons_succ])
    refine wl_give rfl (g_move _ (.pointer (some ⟨p, 0, none⟩)) rfl ?_)
    (try simp only [Act.put, List.setIfInBounds_toArray, List.set_cons_zero, List.set_cons_succ])
    refine wl_give rfl (g_nil _ ⟨p, 0, none⟩ rfl ?_)
    (try simp only [Act.put, List.setIfInBounds_toArray, List.set_cons_zero, List.set_cons_succ])
    refine wl_give rfl (g_fa 44 _ (p) (0) (3) 3 rfl (fa44_3 _ _ _) ?_)
    (try simp only [Act.put, List.setIfInBounds_toArray, List.set_cons_zero, List.set_cons_succ])
    refine wl_give rfl (g_ld1 42 _ (p) 3 _ rfl (ld42 _ _ _ _ ((hM.get 2 rfl).cell 3 _ rfl)) ?_)
    (try simp only [Act.put, List.setIfInBounds_toArray, List.set_cons_zero, List.set_cons_succ])
    refine wl_give rfl (g_len _ 42 64 (ao) (L.length) (cap) (((L.length : Nat) : Int)) Try.underlying42 rfl rfl ?_)
    (try simp only [Act.put, List.setIfInBounds_toArray, List.set_cons_zero, List.set_cons_succ])
    refine wl_give rfl (g_ilss 3 _ _ .i64 (((j : Nat) : Int)) (((L.length : Nat) : Int)) false rfl rfl (decide_eq_false hlt) ?_)
    (try simp only [Act.put, List.setIfInBounds_toArray, List.set_cons_zero, List.set_cons_succ])
    refine wl_nil ?_
    refine hK24 _ _ ?_
    (try clear hK24 K24)
    refine wp_cond_false rfl ?_
    refine wp_exit ?_
    refine hK6 _ _ ?_
    (try clear hK6 K6)
    refine wp_seq_k (fun K25 hK25 => ?_)
    refine wl_region ?_
    refine wl_give rfl (g_move _ (v1) rfl ?_)
    (try simp only [Act.put, List.setIfInBounds_toArray, List.set_cons_zero, List.set_cons_succ])
    refine wl_give rfl (g_move _ (v2) rfl ?_)
    (try simp only [Act.put, List.setIfInBounds_toArray, List.set_cons_zero, List.set_cons_succ])
    refine wl_give rfl (g_assign _ (v1) rfl ?_)
    (try simp only [Act.put, List.setIfInBounds_toArray, List.set_cons_zero, List.set_cons_succ])
    refine wl_give rfl (g_assign _ (v2) rfl ?_)
    (try simp only [Act.put, List.setIfInBounds_toArray, List.set_cons_zero, List.set_cons_succ])
    refine wl_nil ?_
    refine hK25 _ _ ?_
    (try clear hK25 K25)
    refine wp_ret ?_
    rw [hjn, List.take_length] at hM
    obtain ⟨o1, k1, rfl, _⟩ := row_slice hM
    obtain ⟨o2, k2, rfl, _⟩ := row_slice (hM.up 1 rfl)
    go_ret2
    exact ⟨_, _, _, _, rfl, hM⟩
set_option maxHeartbeats 4000000 in
theorem rtake_any {w0 w : World} {R : List HP} {p : Nat} {x y d : Int} {L : List Thg} {i : Int} (hM : Ms w0 w (rb p x y d L :: R)) (hL : L.length ≤ 10000) : Calls Try.prog 18 #[.pointer (some ⟨p, 0, none⟩), .int .i64 i] w fun e w' => ∃ v, e = .returned v ∧ Ms w0 w' (row 9 1 v (ofI i L).length ((ofI i L).map Value.string) :: rb p x y d (notI i L) :: R) := by
  obtain ⟨ao, cap, hM⟩ := rb_cut hM
  go_enter Try.func18, Try.ntmps18
  refine wp_seq_k (fun K1 hK1 => ?_)
  refine wl_region ?_
  refine wl_give rfl (g_assign _ (.slice none (0) (0)) rfl ?_)
  (try simp only [Act.put, List.setIfInBounds_toArray, List.set_cons_zero, List.set_cons_succ])
  refine wl_nil ?_
  refine hK1 _ _ ?_
  (try clear hK1 K1)
  refine wp_seq_k (fun K2 hK2 => ?_)
  refine wl_region ?_
  refine wl_give rfl (g_move _ (.pointer (some ⟨p, 0, none⟩)) rfl ?_)
  (try simp only [Act.put, List.setIfInBounds_toArray, List.set_cons_zero, List.set_cons_succ])
  refine wl_give rfl (g_move _ (.int .i64 (i)) rfl ?_)
  (try simp only [Act.put, List.setIfInBounds_toArray, List.set_cons_zero, List.set_cons_succ])
  refine wl_give rfl (g_move _ (.int .i64 (i)) rfl ?_)
  (try simp only [Act.put, List.setIfInBounds_toArray, List.set_cons_zero, List.set_cons_succ])
  refine wl_give rfl (g_call 28 _ _ [.pointer (some ⟨p, 0, none⟩), .int .i64 (i), .int .i64 (i)] (kf28 _ _) rfl ((parted_op (lo := i) (hi := i) (show Ms w0 w (blk (p) ([.int .i64 (x), .int .i64 (y), .int .i64 (d), .slice ao (L.length) (cap)]) 44 :: row 64 2 (.slice ao (L).length cap) ((L).length) (tcs (L)) :: R) from ((hM.up 1 rfl).up 1 rfl)) hL).mono ?_))
  rintro e w3 ⟨o4, o5, k6, k7, rfl, h_⟩
  refine ⟨_, rfl, ?_⟩
  replace hM : Ms w0 w3 (row 9 1 (.slice o4 (inT (i) (i) L).length k6) ((inT (i) (i) L).length) ((inT (i) (i) L).map Value.string) :: row 64 2 (.slice o5 (outT (i) (i) L).length k7) ((outT (i) (i) L).length) (tcs (outT (i) (i) L)) :: blk (p) ([.int .i64 (x), .int .i64 (y), .int .i64 (d), .slice ao (L.length) (cap)]) 44 :: row 64 2 (.slice ao (L).length cap) ((L).length) (tcs (L)) :: R) := h_
  clear h_
  (try simp only [Act.put, List.setIfInBounds_toArray, List.set_cons_zero, List.set_cons_succ])
  refine wl_give rfl (g_move _ (.tuple #[.slice o4 ((inT (i) (i) L).length) (k6), .slice o5 ((outT (i) (i) L).length) (k7)]) rfl ?_)
  (try simp only [Act.put, List.setIfInBounds_toArray, List.set_cons_zero, List.set_cons_succ])
  refine wl_give rfl (g_extract _ #[.slice o4 ((inT (i) (i) L).length) (k6), .slice o5 ((outT (i) (i) L).length) (k7)] 0 (.slice o4 ((inT (i) (i) L).length) (k6)) rfl rfl ?_)
  (try simp only [Act.put, List.setIfInBounds_toArray, List.set_cons_zero, List.set_cons_succ])
  refine wl_give rfl (g_extract _ #[.slice o4 ((inT (i) (i) L).length) (k6), .slice o5 ((outT (i) (i) L).length) (k7)] 1 (.slice o5 ((outT (i) (i) L).length) (k7)) rfl rfl ?_)
  (try simp only [Act.put, List.setIfInBounds_toArray, List.set_cons_zero, List.set_cons_succ])
  refine wl_give rfl (g_assign _ (.slice o4 ((inT (i) (i) L).length) (k6)) rfl ?_)
  (try simp only [Act.put, List.setIfInBounds_toArray, List.set_cons_zero, List.set_cons_succ])
  refine wl_give rfl (g_assign _ (.slice o5 ((outT (i) (i) L).length) (k7)) rfl ?_)
  (try simp only [Act.put, List.setIfInBounds_toArray, List.set_cons_zero, List.set_cons_succ])
  refine wl_nil ?_
  refine hK2 _ _ ?_
  (try clear hK2 K2)
  refine wp_seq_k (fun K8 hK8 => ?_)
  refine wl_region ?_
  refine wl_give rfl (g_move _ (.pointer (some ⟨p, 0, none⟩)) rfl ?_)
  (try simp only [Act.put, List.setIfInBounds_toArray, List.set_cons_zero, List.set_cons_succ])
  refine wl_give rfl (g_move _ (.slice o5 ((outT (i) (i) L).length) (k7)) rfl ?_)
  (try simp only [Act.put, List.setIfInBounds_toArray, List.set_cons_zero, List.set_cons_succ])
  refine wl_give rfl (g_nil _ ⟨p, 0, none⟩ rfl ?_)
  (try simp only [Act.put, List.setIfInBounds_toArray, List.set_cons_zero, List.set_cons_succ])
  refine wl_give rfl (g_fa 44 _ (p) (0) (3) 3 rfl (fa44_3 _ _ _) ?_)
  (try simp only [Act.put, List.setIfInBounds_toArray, List.set_cons_zero, List.set_cons_succ])
  refine wl_give rfl (g_st1 42 _ _ (p) 3 (.slice o5 ((outT (i) (i) L).length) (k7)) _ 44 rfl rfl (hM.get 2 rfl) (show 3 < 4 by decide) rfl rfl size42 ?_)
  intro w9 t_ b_
  replace hM : Ms w0 w9 (row 9 1 (.slice o4 (inT (i) (i) L).length k6) ((inT (i) (i) L).length) ((inT (i) (i) L).map Value.string) :: row 64 2 (.slice o5 (outT (i) (i) L).length k7) ((outT (i) (i) L).length) (tcs (outT (i) (i) L)) :: blk (p) ([.int .i64 (x), .int .i64 (y), .int .i64 (d), .slice o5 ((outT (i) (i) L).length) (k7)]) 44 :: row 64 2 (.slice ao (L).length cap) ((L).length) (tcs (L)) :: R) := hM.put 2 rfl t_ b_
  clear t_ b_
  (try simp only [Act.put, List.setIfInBounds_toArray, List.set_cons_zero, List.set_cons_succ])
  refine wl_nil ?_
  refine hK8 _ _ ?_
  (try clear hK8 K8)
  refine wp_seq_k (fun K10 hK10 => ?_)
  refine wl_region ?_
  refine wl_give rfl (g_move _ (.slice o4 ((inT (i) (i) L).length) (k6)) rfl ?_)
  (try simp only [Act.put, List.setIfInBounds_toArray, List.set_cons_zero, List.set_cons_succ])
  refine wl_give rfl (g_assign _ (.slice o4 ((inT (i) (i) L).length) (k6)) rfl ?_)
  (try simp only [Act.put, List.setIfInBounds_toArray, List.set_cons_zero, List.set_cons_succ])
  refine wl_nil ?_
  refine hK10 _ _ ?_
  (try clear hK10 K10)
  refine wp_ret ?_
  have h8 := ((((hM.up 3 rfl).up 1 rfl).up 2 rfl).up 3 rfl)
  have h9 := (rb_mk h8).erase 2
  have h10 := h9.up 1 rfl
  go_ret
  refine ⟨_, rfl, ?_⟩
  rw [← inT_one i L, ← outT_one i L]
  exact h10
set_option maxHeartbeats 4000000 in
theorem rdrop_lo {w0 w : World} {R : List HP} {p : Nat} {x y d : Int} {L : List Thg} {lo : Int} (hM : Ms w0 w (rb p x y d L :: R)) (hL : L.length ≤ 10000) (hw : ∀ t ∈ L, 1 ≤ t.1) (h : lo < 1) (hi : lo ≤ 9223372036854775807) : Calls Try.prog 20 #[.pointer (some ⟨p, 0, none⟩), .int .i64 lo] w fun e w' => e = .returned (.int .i64 ((bdN lo L : Nat) : Int)) ∧ Ms w0 w' (rb p x y d (notB lo L) :: R) := by
  obtain ⟨ao, cap, hM⟩ := rb_cut hM
  go_enter Try.func20, Try.ntmps20
  refine wp_seq_k (fun K1 hK1 => ?_)
  refine wl_region ?_
  refine wl_give rfl (g_assign _ (.int .i64 (0)) rfl ?_)
  (try simp only [Act.put, List.setIfInBounds_toArray, List.set_cons_zero, List.set_cons_succ])
  refine wl_nil ?_
  refine hK1 _ _ ?_
  (try clear hK1 K1)
  refine wp_seq_k (fun K2 hK2 => ?_)
  refine wp_seq_k (fun K3 hK3 => ?_)
  refine wl_region ?_
  refine wl_give rfl (g_move _ (.int .i64 (lo)) rfl ?_)
  (try simp only [Act.put, List.setIfInBounds_toArray, List.set_cons_zero, List.set_cons_succ])
  refine wl_give rfl (g_ilss 3 _ _ .i64 (lo) (1) true rfl rfl (decide_eq_true h) ?_)
  (try simp only [Act.put, List.setIfInBounds_toArray, List.set_cons_zero, List.set_cons_succ])
  refine wl_nil ?_
  refine hK3 _ _ ?_
  (try clear hK3 K3)
  refine wp_cond_true rfl ?_
  refine wp_seq_k (fun K4 hK4 => ?_)
  refine wl_region ?_
  refine wl_give rfl (g_assign _ (.int .i64 (0)) rfl ?_)
  (try simp only [Act.put, List.setIfInBounds_toArray, List.set_cons_zero, List.set_cons_succ])
  refine wl_nil ?_
  refine hK4 _ _ ?_
  (try clear hK4 K4)
  refine wp_ret ?_
  have h9 := rb_mk hM
  go_ret
  rw [notB_low hw h]
  exact ⟨by unfold bdN; rw [notB_low hw h, Nat.sub_self]; rfl, h9⟩
set_option maxHeartbeats 4000000 in
theorem rdrop_hi {w0 w : World} {R : List HP} {p : Nat} {x y d : Int} {L : List Thg} {lo : Int} (hM : Ms w0 w (rb p x y d L :: R)) (hL : L.length ≤ 10000) (hw : ∀ t ∈ L, 1 ≤ t.1) (h : ¬ lo < 1) (hi : lo ≤ 9223372036854775807) : Calls Try.prog 20 #[.pointer (some ⟨p, 0, none⟩), .int .i64 lo] w fun e w' => e = .returned (.int .i64 ((bdN lo L : Nat) : Int)) ∧ Ms w0 w' (rb p x y d (notB lo L) :: R) := by
  obtain ⟨ao, cap, hM⟩ := rb_cut hM
  go_enter Try.func20, Try.ntmps20
  refine wp_seq_k (fun K1 hK1 => ?_)
  refine wl_region ?_
  refine wl_give rfl (g_assign _ (.int .i64 (0)) rfl ?_)
  (try simp only [Act.put, List.setIfInBounds_toArray, List.set_cons_zero, List.set_cons_succ])
  refine wl_nil ?_
  refine hK1 _ _ ?_
  (try clear hK1 K1)
  refine wp_seq_k (fun K2 hK2 => ?_)
  refine wp_seq_k (fun K3 hK3 => ?_)
  refine wl_region ?_
  refine wl_give rfl (g_move _ (.int .i64 (lo)) rfl ?_)
  (try simp only [Act.put, List.setIfInBounds_toArray, List.set_cons_zero, List.set_cons_succ])
  refine wl_give rfl (g_ilss 3 _ _ .i64 (lo) (1) false rfl rfl (decide_eq_false h) ?_)
  (try simp only [Act.put, List.setIfInBounds_toArray, List.set_cons_zero, List.set_cons_succ])
  refine wl_nil ?_
  refine hK3 _ _ ?_
  (try clear hK3 K3)
  refine wp_cond_false rfl ?_
  refine wp_skip ?_
  refine hK2 _ _ ?_
  (try clear hK2 K2)
  refine wp_seq_k (fun K4 hK4 => ?_)
  refine wl_region ?_
  refine wl_give rfl (g_move _ (.pointer (some ⟨p, 0, none⟩)) rfl ?_)
  (try simp only [Act.put, List.setIfInBounds_toArray, List.set_cons_zero, List.set_cons_succ])
  refine wl_give rfl (g_move _ (.int .i64 (lo)) rfl ?_)
  (try simp only [Act.put, List.setIfInBounds_toArray, List.set_cons_zero, List.set_cons_succ])
  refine wl_give rfl (g_isub 3 _ _ .i64 (lo) (1) (lo - 1) rfl rfl (wrap_id _ (by omega) (by omega)) ?_)
  (try simp only [Act.put, List.setIfInBounds_toArray, List.set_cons_zero, List.set_cons_succ])
  refine wl_give rfl (g_call 28 _ _ [.pointer (some ⟨p, 0, none⟩), .int .i64 (1), .int .i64 (lo - 1)] (kf28 _ _) rfl ((parted_op (lo := 1) (hi := lo - 1) (show Ms w0 w (blk (p) ([.int .i64 (x), .int .i64 (y), .int .i64 (d), .slice ao (L.length) (cap)]) 44 :: row 64 2 (.slice ao (L).length cap) ((L).length) (tcs (L)) :: R) from ((hM.up 1 rfl).up 1 rfl)) hL).mono ?_))
  rintro e w5 ⟨o6, o7, k8, k9, rfl, h_⟩
  refine ⟨_, rfl, ?_⟩
  replace hM : Ms w0 w5 (row 9 1 (.slice o6 (inT (1) (lo - 1) L).length k8) ((inT (1) (lo - 1) L).length) ((inT (1) (lo - 1) L).map Value.string) :: row 64 2 (.slice o7 (outT (1) (lo - 1) L).length k9) ((outT (1) (lo - 1) L).length) (tcs (outT (1) (lo - 1) L)) :: blk (p) ([.int .i64 (x), .int .i64 (y), .int .i64 (d), .slice ao (L.length) (cap)]) 44 :: row 64 2 (.slice ao (L).length cap) ((L).length) (tcs (L)) :: R) := h_
  clear h_
  (try simp only [Act.put, List.setIfInBounds_toArray, List.set_cons_zero, List.set_cons_succ])
  refine wl_give rfl (g_move _ (.tuple #[.slice o6 ((inT (1) (lo - 1) L).length) (k8), .slice o7 ((outT (1) (lo - 1) L).length) (k9)]) rfl ?_)
  (try simp only [Act.put, List.setIfInBounds_toArray, List.set_cons_zero, List.set_cons_succ])
  refine wl_give rfl (g_extract _ #[.slice o6 ((inT (1) (lo - 1) L).length) (k8), .slice o7 ((outT (1) (lo - 1) L).length) (k9)] 0 (.slice o6 ((inT (1) (lo - 1) L).length) (k8)) rfl rfl ?_)
  (try simp only [Act.put, List.setIfInBounds_toArray, List.set_cons_zero, List.set_cons_succ])
  refine wl_give rfl (g_extract _ #[.slice o6 ((inT (1) (lo - 1) L).length) (k8), .slice o7 ((outT (1) (lo - 1) L).length) (k9)] 1 (.slice o7 ((outT (1) (lo - 1) L).length) (k9)) rfl rfl ?_)
  (try simp only [Act.put, List.setIfInBounds_toArray, List.set_cons_zero, List.set_cons_succ])
  refine wl_give rfl (g_assign _ (.slice o6 ((inT (1) (lo - 1) L).length) (k8)) rfl ?_)
  (try simp only [Act.put, List.setIfInBounds_toArray, List.set_cons_zero, List.set_cons_succ])
  refine wl_give rfl (g_assign _ (.slice o7 ((outT (1) (lo - 1) L).length) (k9)) rfl ?_)
  (try simp only [Act.put, List.setIfInBounds_toArray, List.set_cons_zero, List.set_cons_succ])
  refine wl_nil ?_
  refine hK4 _ _ ?_
  (try clear hK4 K4)
  refine wp_seq_k (fun K10 hK10 => ?_)
  refine wl_region ?_
  refine wl_give rfl (g_move _ (.pointer (some ⟨p, 0, none⟩)) rfl ?_)
  (try simp only [Act.put, List.setIfInBounds_toArray, List.set_cons_zero, List.set_cons_succ])
  refine wl_give rfl (g_move _ (.slice o7 ((outT (1) (lo - 1) L).length) (k9)) rfl ?_)
  (try simp only [Act.put, List.setIfInBounds_toArray, List.set_cons_zero, List.set_cons_succ])
  refine wl_give rfl (g_nil _ ⟨p, 0, none⟩ rfl ?_)
  (try simp only [Act.put, List.setIfInBounds_toArray, List.set_cons_zero, List.set_cons_succ])
  refine wl_give rfl (g_fa 44 _ (p) (0) (3) 3 rfl (fa44_3 _ _ _) ?_)
  (try simp only [Act.put, List.setIfInBounds_toArray, List.set_cons_zero, List.set_cons_succ])
  refine wl_give rfl (g_st1 42 _ _ (p) 3 (.slice o7 ((outT (1) (lo - 1) L).length) (k9)) _ 44 rfl rfl (hM.get 2 rfl) (show 3 < 4 by decide) rfl rfl size42 ?_)
  intro w11 t_ b_
  replace hM : Ms w0 w11 (row 9 1 (.slice o6 (inT (1) (lo - 1) L).length k8) ((inT (1) (lo - 1) L).length) ((inT (1) (lo - 1) L).map Value.string) :: row 64 2 (.slice o7 (outT (1) (lo - 1) L).length k9) ((outT (1) (lo - 1) L).length) (tcs (outT (1) (lo - 1) L)) :: blk (p) ([.int .i64 (x), .int .i64 (y), .int .i64 (d), .slice o7 ((outT (1) (lo - 1) L).length) (k9)]) 44 :: row 64 2 (.slice ao (L).length cap) ((L).length) (tcs (L)) :: R) := hM.put 2 rfl t_ b_
  clear t_ b_
  (try simp only [Act.put, List.setIfInBounds_toArray, List.set_cons_zero, List.set_cons_succ])
  refine wl_nil ?_
  refine hK10 _ _ ?_
  (try clear hK10 K10)
  refine wp_seq_k (fun K12 hK12 => ?_)
  refine wl_region ?_
  refine wl_give rfl (g_move _ (.slice o6 ((inT (1) (lo - 1) L).length) (k8)) rfl ?_)
  (try simp only [Act.put, List.setIfInBounds_toArray, List.set_cons_zero, List.set_cons_succ])
  refine wl_give rfl (g_len _ 36 9 (o6) ((inT (1) (lo - 1) L).length) (k8) ((((inT (1) (lo - 1) L).length : Nat) : Int)) Try.underlying36 rfl rfl ?_)
  (try simp only [Act.put, List.setIfInBounds_toArray, List.set_cons_zero, List.set_cons_succ])
  refine wl_give rfl (g_assign _ (.int .i64 ((((inT (1) (lo - 1) L).length : Nat) : Int))) rfl ?_)
  (try simp only [Act.put, List.setIfInBounds_toArray, List.set_cons_zero, List.set_cons_succ])
  refine wl_nil ?_
  refine hK12 _ _ ?_
  (try clear hK12 K12)
  refine wp_ret ?_
  have h8 := ((((hM.up 3 rfl).up 1 rfl).up 2 rfl).up 3 rfl)
  have h9 := ((rb_mk h8).erase 1).erase 1
  rw [outT_low hw] at h9
  go_ret
  exact ⟨by rw [← inT_low hw]; rfl, h9⟩
theorem rdrop_any {w0 w : World} {R : List HP} {p : Nat} {x y d : Int} {L : List Thg} {lo : Int} (hM : Ms w0 w (rb p x y d L :: R)) (hL : L.length ≤ 10000) (hw : ∀ t ∈ L, 1 ≤ t.1) (hi : lo ≤ 9223372036854775807) : Calls Try.prog 20 #[.pointer (some ⟨p, 0, none⟩), .int .i64 lo] w fun e w' => e = .returned (.int .i64 ((bdN lo L : Nat) : Int)) ∧ Ms w0 w' (rb p x y d (notB lo L) :: R) := by
  by_cases h : lo < 1
  · exact rdrop_lo hM hL hw h hi
  · exact rdrop_hi hM hL hw h hi
end Go.Proofs.Ytpkjocibgmjhdaa
