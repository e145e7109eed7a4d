/- What Has answers: each thing goes out and comes in again, and all lie as they did. -/
import Derived.Test.YtpkjocibgmjhdaaBf1
namespace Go.Proofs.Ytpkjocibgmjhdaa
set_option maxRecDepth 10000
open Go Go.RowKit
set_option linter.unusedVariables false
set_option linter.unusedSimpArgs false

section
variable {P : Program} {b : Frame} {a : Act} {k : List Item} {cs : List Frame} {w : World} {Z : Goroutine → World → Prop}
/-- A loop of so many rounds at most. -/
theorem lt_rounds {c : Code} (I : Nat → Act → World → Prop) (n : Nat) (h0 : I n a w) (h : ∀ n a w, (∀ m a' w', m < n → I m a' w' → LT P Z b cs (.inLoop c :: k) a' w') → I n a w → LT P Z b cs (.code c :: .inLoop c :: k) a w) : LT P Z b cs (.code (.loop c) :: k) a w := by
  have key : ∀ n a w, I n a w → LT P Z b cs (.code c :: .inLoop c :: k) a w := by
    intro n
    induction n using Nat.strongRecOn with
    | _ n ih => exact fun a w hI => h n a w (fun m a' w' hm hI' => lt_again (ih m hm a' w' hI')) hI
  exact lt_loop (key n a w h0)
end
/-- Is it among these? -/
def isin (s : ByteArray) (ts : List ByteArray) : Bool := ts.any (fun t => decide (t = s))
theorem isin_ofI (i : Int) (s : ByteArray) (L : List Thg) : isin s (ofI i L) = hasT i s L := by
  rw [Bool.eq_iff_iff, hasT_iff, ← mem_ofI]
  unfold isin
  rw [List.any_eq_true]
  constructor
  · rintro ⟨t, h1, h2⟩
    rw [← of_decide_eq_true h2]; exact h1
  · intro h
    exact ⟨s, h, by simp⟩
set_option maxHeartbeats 4000000 in
theorem has_in {w0 w : World} {R : List HP} {p m c x : Nat} {y d i : Int} {s : ByteArray} {es : List (Int × Value)} {ts : List ByteArray} (hM : Ms w0 w (blk (p) ([.int .i64 (((x : Nat) : Int)), .int .i64 (y), .map (some m), .int .i64 (d)]) 60 :: mp kI m (es) :: ch c (x) ((ts).map Value.string) :: R)) (hl : mlook es i = some (.chan (some c))) (hx : ts.length ≤ x) (hx2 : x ≤ 1000) : Calls Try.prog 25 #[.pointer (some ⟨p, 0, none⟩), .int .i64 i, .string s] w fun e w' => e = .returned (.bool (isin s ts)) ∧ Ms w0 w' (blk (p) ([.int .i64 (((x : Nat) : Int)), .int .i64 (y), .map (some m), .int .i64 (d)]) 60 :: mp kI m (es) :: ch c (x) ((ts).map Value.string) :: R) := by
  refine calls_of_lt Try.func25 rfl (fun b cs hbf hbk => ?_)
  simp only [Try.ntmps25, List.size_toArray, List.length_cons, List.length_nil, Nat.reduceAdd, Nat.reduceSub, Array.replicate_succ, Array.replicate_zero, List.push_toArray, List.append_toArray, List.nil_append, List.cons_append]
  refine lt_seq ?_
  refine lt_wp (fun K1 hK1 => ?_)
  refine wl_region ?_
  refine wl_give rfl (g_assign _ (.bool false) rfl ?_)
  (try simp only [Act.put, List.setIfInBounds_toArray, List.set_cons_zero, List.set_cons_succ])
  refine wl_nil ?_
  refine hK1 _ _ ?_
  (try clear hK1 K1)
  refine lt_seq ?_
  refine lt_wp (fun K2 hK2 => ?_)
  refine wl_region ?_
  refine wl_give rfl (g_move _ (.pointer (some ⟨p, 0, none⟩)) rfl ?_)
  (try simp only [Act.put, List.setIfInBounds_toArray, List.set_cons_zero, List.set_cons_succ])
  refine wl_give rfl (g_nil _ ⟨p, 0, none⟩ rfl ?_)
  (try simp only [Act.put, List.setIfInBounds_toArray, List.set_cons_zero, List.set_cons_succ])
  refine wl_give rfl (g_fa 60 _ (p) (0) (2) 2 rfl (fa60_2 _ _ _) ?_)
  (try simp only [Act.put, List.setIfInBounds_toArray, List.set_cons_zero, List.set_cons_succ])
  refine wl_give rfl (g_ld1 58 _ (p) 2 _ rfl (ld58 _ _ _ _ ((hM.get 0 rfl).cell 2 _ rfl)) ?_)
  (try simp only [Act.put, List.setIfInBounds_toArray, List.set_cons_zero, List.set_cons_succ])
  refine wl_give rfl (g_move _ (.int .i64 (i)) rfl ?_)
  (try simp only [Act.put, List.setIfInBounds_toArray, List.set_cons_zero, List.set_cons_succ])
  refine wl_give rfl (g_look keyI Try.underlying58 Try.zeroValue61 _ _ (i) (.chan (some c)) rfl rfl (show Ms w0 _ (mp kI m (es) :: blk (p) ([.int .i64 (((x : Nat) : Int)), .int .i64 (y), .map (some m), .int .i64 (d)]) 60 :: ch c (x) ((ts).map Value.string) :: R) from (hM.up 1 rfl)) (by rw [hl]; rfl) ?_)
  (try simp only [Act.put, List.setIfInBounds_toArray, List.set_cons_zero, List.set_cons_succ])
  refine wl_give rfl (g_assign _ (.chan (some c)) rfl ?_)
  (try simp only [Act.put, List.setIfInBounds_toArray, List.set_cons_zero, List.set_cons_succ])
  refine wl_give rfl (g_assign _ (.bool false) rfl ?_)
  (try simp only [Act.put, List.setIfInBounds_toArray, List.set_cons_zero, List.set_cons_succ])
  refine wl_nil ?_
  refine hK2 _ _ ?_
  (try clear hK2 K2)
  refine lt_seq ?_
  refine lt_seq ?_
  refine lt_wp (fun K3 hK3 => ?_)
  refine wl_region ?_
  refine wl_give rfl (g_move _ (.chan (some c)) rfl ?_)
  (try simp only [Act.put, List.setIfInBounds_toArray, List.set_cons_zero, List.set_cons_succ])
  refine wl_give rfl (g_lenC _ (((ts.length : Nat) : Int)) rfl (show Ms w0 _ (ch c (x) ((ts).map Value.string) :: blk (p) ([.int .i64 (((x : Nat) : Int)), .int .i64 (y), .map (some m), .int .i64 (d)]) 60 :: mp kI m (es) :: R) from (hM.up 2 rfl)) (by simp) ?_)
  (try simp only [Act.put, List.setIfInBounds_toArray, List.set_cons_zero, List.set_cons_succ])
  refine wl_give rfl (g_move _ (.int .i64 (0)) rfl ?_)
  (try simp only [Act.put, List.setIfInBounds_toArray, List.set_cons_zero, List.set_cons_succ])
  refine wl_nil ?_
  refine hK3 _ _ ?_
  (try clear hK3 K3)
  refine lt_block ?_
  refine lt_rounds (fun n a w => ∃ (j : Nat) (hs : Bool) (t9 t19 t20 t21 t22 t23 t24 t25 t26 t27 t28 t29 t30 : Value), a = ⟨#[.pointer (some ⟨p, 0, none⟩), .int .i64 (i), .string (s), undef, undef, undef, .bool false, .chan (some c), .bool hs, t9, .pointer (some ⟨p, 0, none⟩), .pointer (some ⟨p, 0, none⟩), .pointer (some ⟨p, 2, none⟩), .map (some m), .int .i64 (i), .chan (some c), .chan (some c), .int .i64 (((ts.length : Nat) : Int)), .int .i64 ((j : Nat) : Int), t19, t20, t21, t22, t23, t24, t25, t26, t27, t28, t29, t30, undef], []⟩ ∧ j + n = ts.length ∧ hs = isin s (ts.take j) ∧ Ms w0 w (blk (p) ([.int .i64 (((x : Nat) : Int)), .int .i64 (y), .map (some m), .int .i64 (d)]) 60 :: mp kI m (es) :: ch c (x) ((ts.drop j ++ ts.take j).map Value.string) :: R)) ts.length ⟨0, false, _, _, _, _, _, _, _, _, _, _, _, _, _, rfl, Nat.zero_add _, by simp [isin], by simpa using hM⟩ ?_
  clear hM
  rintro n a w hrec ⟨j, hs, t9, t19, t20, t21, t22, t23, t24, t25, t26, t27, t28, t29, t30, rfl, hj, hhs, hM⟩
  by_cases hlt : ((j : Nat) : Int) < ((ts.length : Nat) : Int)
  · obtain ⟨t, ht⟩ : ∃ t, ts[j]? = some t := ⟨_, List.getElem?_eq_getElem (by omega)⟩
    have hjl : Shut (j < ts.length) := ⟨by omega⟩
    have hd : ts.drop j = t :: ts.drop (j + 1) := by rw [List.drop_eq_getElem_cons hjl.out]; congr 1; rw [List.getElem?_eq_getElem hjl.out] at ht; exact Option.some.inj ht
    have htk : ts.take (j + 1) = ts.take j ++ [t] := by rw [List.take_add_one, ht]; rfl
    have e1 : Shut (IntKind.i64.wrap (((j : Nat) : Int) + 1) = ((j + 1 : Nat) : Int)) := ⟨by rw [wrap_id _ (by omega) (by omega)]; omega⟩
    have e2 : Shut (((ts.drop (j + 1) ++ ts.take j).map Value.string).length < x) := ⟨by simp only [List.length_map, List.length_append, List.length_drop, List.length_take]; omega⟩
    replace hM : Ms w0 w (blk (p) ([.int .i64 (((x : Nat) : Int)), .int .i64 (y), .map (some m), .int .i64 (d)]) 60 :: mp kI m (es) :: ch c (x) (.string t :: (ts.drop (j + 1) ++ ts.take j).map Value.string) :: R) := by rw [hd, List.cons_append, List.map_cons] at hM; exact hM
    cases hs with
    | true =>
      refine lt_seq ?_
      refine lt_wp (fun K4 hK4 => ?_)
      refine wl_region ?_
      refine wl_give rfl (g_ilss 3 _ _ .i64 (((j : Nat) : Int)) (((ts.length : Nat) : Int)) true rfl rfl (decide_eq_true hlt) ?_)
      (try simp only [Act.put, List.setIfInBounds_toArray, List.set_cons_zero, List.set_cons_succ])
      refine wl_nil ?_
      refine hK4 _ _ ?_
      (try clear hK4 K4)
      refine lt_seq ?_
      refine lt_true rfl ?_
      refine lt_skip ?_
      refine lt_seq ?_
      refine lt_block ?_
      refine lt_seq ?_
      refine lt_region ?_
      refine lo_give rfl (g_move _ (.chan (some c)) rfl ?_)
      (try simp only [Act.put, List.setIfInBounds_toArray, List.set_cons_zero, List.set_cons_succ])
      refine lo_recv hbk Try.underlying61 Try.zeroValue9 rfl (show Ms w0 w (ch c (x) (.string t :: (ts.drop (j + 1) ++ ts.take j).map Value.string) :: blk (p) ([.int .i64 (((x : Nat) : Int)), .int .i64 (y), .map (some m), .int .i64 (d)]) 60 :: mp kI m (es) :: R) from (hM.up 2 rfl)) ?_
      intro w5 h_
      replace hM : Ms w0 w5 (ch c (x) ((ts.drop (j + 1) ++ ts.take j).map Value.string) :: blk (p) ([.int .i64 (((x : Nat) : Int)), .int .i64 (y), .map (some m), .int .i64 (d)]) 60 :: mp kI m (es) :: R) := h_
      clear h_
      (try simp only [Act.put, List.setIfInBounds_toArray, List.set_cons_zero, List.set_cons_succ])
      refine lo_give rfl (g_assign _ (.string (t)) rfl ?_)
      (try simp only [Act.put, List.setIfInBounds_toArray, List.set_cons_zero, List.set_cons_succ])
      refine lo_nil ?_
      refine lt_seq ?_
      refine lt_wp (fun K6 hK6 => ?_)
      refine wl_region ?_
      refine wl_give rfl (g_move _ (.bool true) rfl ?_)
      (try simp only [Act.put, List.setIfInBounds_toArray, List.set_cons_zero, List.set_cons_succ])
      refine wl_give rfl (g_move _ (.bool true) rfl ?_)
      (try simp only [Act.put, List.setIfInBounds_toArray, List.set_cons_zero, List.set_cons_succ])
      refine wl_skip rfl ?_
      (try simp only [Act.put, List.setIfInBounds_toArray, List.set_cons_zero, List.set_cons_succ])
      refine wl_skip rfl ?_
      (try simp only [Act.put, List.setIfInBounds_toArray, List.set_cons_zero, List.set_cons_succ])
      refine wl_skip rfl ?_
      (try simp only [Act.put, List.setIfInBounds_toArray, List.set_cons_zero, List.set_cons_succ])
      refine wl_give rfl (g_pickt _ _ _ (.bool true) rfl rfl ?_)
      (try simp only [Act.put, List.setIfInBounds_toArray, List.set_cons_zero, List.set_cons_succ])
      refine wl_give rfl (g_assign _ (.bool true) rfl ?_)
      (try simp only [Act.put, List.setIfInBounds_toArray, List.set_cons_zero, List.set_cons_succ])
      refine wl_nil ?_
      refine hK6 _ _ ?_
      (try clear hK6 K6)
      refine lt_region ?_
      refine lo_give rfl (g_move _ (.chan (some c)) rfl ?_)
      (try simp only [Act.put, List.setIfInBounds_toArray, List.set_cons_zero, List.set_cons_succ])
      refine lo_give rfl (g_move _ (.string (t)) rfl ?_)
      (try simp only [Act.put, List.setIfInBounds_toArray, List.set_cons_zero, List.set_cons_succ])
      refine lo_send hbk rfl rfl hM (e2.out) ?_
      intro w7 h_
      replace hM : Ms w0 w7 (ch c (x) ((ts.drop (j + 1) ++ ts.take j).map Value.string ++ [.string (t)]) :: blk (p) ([.int .i64 (((x : Nat) : Int)), .int .i64 (y), .map (some m), .int .i64 (d)]) 60 :: mp kI m (es) :: R) := h_
      clear h_
      (try simp only [Act.put, List.setIfInBounds_toArray, List.set_cons_zero, List.set_cons_succ])
      refine lo_nil ?_
      refine lt_over ?_
      refine lt_wp (fun K8 hK8 => ?_)
      refine wl_region ?_
      refine wl_give rfl (g_ia 3 _ _ .i64 (((j : Nat) : Int)) (1) (((j + 1 : Nat) : Int)) rfl rfl (e1.out) ?_)
      (try simp only [Act.put, List.setIfInBounds_toArray, List.set_cons_zero, List.set_cons_succ])
      refine wl_give rfl (g_move _ (.int .i64 (((j + 1 : Nat) : Int))) rfl ?_)
      (try simp only [Act.put, List.setIfInBounds_toArray, List.set_cons_zero, List.set_cons_succ])
      refine wl_nil ?_
      refine hK8 _ _ ?_
      (try clear hK8 K8)
      have h9 : Ms w0 w7 (blk (p) ([.int .i64 (((x : Nat) : Int)), .int .i64 (y), .map (some m), .int .i64 (d)]) 60 :: mp kI m (es) :: ch c (x) ((ts.drop (j + 1) ++ ts.take j).map Value.string ++ [.string t]) :: R) := (((hM.up 0 rfl).up 2 rfl).up 2 rfl)
      rw [show (ts.drop (j + 1) ++ ts.take j).map Value.string ++ [Value.string t] = (ts.drop (j + 1) ++ ts.take (j + 1)).map Value.string by rw [htk]; simp] at h9
      exact hrec (n - 1) _ _ (by have := hjl.out; omega) ⟨j + 1, true, _, _, _, _, _, _, _, _, _, _, _, _, _, rfl, by have := hjl.out; omega, by rw [htk]; unfold isin at *; rw [List.any_append, ← hhs, Bool.true_or], h9⟩
    | false =>
      by_cases hts : t = s
      · skip
        refine lt_seq ?_
        refine lt_wp (fun K9 hK9 => ?_)
        refine wl_region ?_
        refine wl_give rfl (g_ilss 3 _ _ .i64 (((j : Nat) : Int)) (((ts.length : Nat) : Int)) true rfl rfl (decide_eq_true hlt) ?_)
        (try simp only [Act.put, List.setIfInBounds_toArray, List.set_cons_zero, List.set_cons_succ])
        refine wl_nil ?_
        refine hK9 _ _ ?_
        (try clear hK9 K9)
        refine lt_seq ?_
        refine lt_true rfl ?_
        refine lt_skip ?_
        refine lt_seq ?_
        refine lt_block ?_
        refine lt_seq ?_
        refine lt_region ?_
        refine lo_give rfl (g_move _ (.chan (some c)) rfl ?_)
        (try simp only [Act.put, List.setIfInBounds_toArray, List.set_cons_zero, List.set_cons_succ])
        refine lo_recv hbk Try.underlying61 Try.zeroValue9 rfl (show Ms w0 w (ch c (x) (.string t :: (ts.drop (j + 1) ++ ts.take j).map Value.string) :: blk (p) ([.int .i64 (((x : Nat) : Int)), .int .i64 (y), .map (some m), .int .i64 (d)]) 60 :: mp kI m (es) :: R) from (hM.up 2 rfl)) ?_
        intro w10 h_
        replace hM : Ms w0 w10 (ch c (x) ((ts.drop (j + 1) ++ ts.take j).map Value.string) :: blk (p) ([.int .i64 (((x : Nat) : Int)), .int .i64 (y), .map (some m), .int .i64 (d)]) 60 :: mp kI m (es) :: R) := h_
        clear h_
        (try simp only [Act.put, List.setIfInBounds_toArray, List.set_cons_zero, List.set_cons_succ])
        refine lo_give rfl (g_assign _ (.string (t)) rfl ?_)
        (try simp only [Act.put, List.setIfInBounds_toArray, List.set_cons_zero, List.set_cons_succ])
        refine lo_nil ?_
        refine lt_seq ?_
        refine lt_wp (fun K11 hK11 => ?_)
        refine wl_region ?_
        refine wl_give rfl (g_move _ (.bool false) rfl ?_)
        (try simp only [Act.put, List.setIfInBounds_toArray, List.set_cons_zero, List.set_cons_succ])
        refine wl_give rfl (g_move _ (.bool false) rfl ?_)
        (try simp only [Act.put, List.setIfInBounds_toArray, List.set_cons_zero, List.set_cons_succ])
        refine wl_give rfl (g_move _ (.string (t)) rfl ?_)
        (try simp only [Act.put, List.setIfInBounds_toArray, List.set_cons_zero, List.set_cons_succ])
        refine wl_give rfl (g_move _ (.string (s)) rfl ?_)
        (try simp only [Act.put, List.setIfInBounds_toArray, List.set_cons_zero, List.set_cons_succ])
        refine wl_give rfl (g_steq 9 _ _ (t) (s) true rfl rfl (decide_eq_true hts) ?_)
        (try simp only [Act.put, List.setIfInBounds_toArray, List.set_cons_zero, List.set_cons_succ])
        refine wl_give rfl (g_pickf _ _ _ (.bool true) rfl rfl ?_)
        (try simp only [Act.put, List.setIfInBounds_toArray, List.set_cons_zero, List.set_cons_succ])
        refine wl_give rfl (g_assign _ (.bool true) rfl ?_)
        (try simp only [Act.put, List.setIfInBounds_toArray, List.set_cons_zero, List.set_cons_succ])
        refine wl_nil ?_
        refine hK11 _ _ ?_
        (try clear hK11 K11)
        refine lt_region ?_
        refine lo_give rfl (g_move _ (.chan (some c)) rfl ?_)
        (try simp only [Act.put, List.setIfInBounds_toArray, List.set_cons_zero, List.set_cons_succ])
        refine lo_give rfl (g_move _ (.string (t)) rfl ?_)
        (try simp only [Act.put, List.setIfInBounds_toArray, List.set_cons_zero, List.set_cons_succ])
        refine lo_send hbk rfl rfl hM (e2.out) ?_
        intro w12 h_
        replace hM : Ms w0 w12 (ch c (x) ((ts.drop (j + 1) ++ ts.take j).map Value.string ++ [.string (t)]) :: blk (p) ([.int .i64 (((x : Nat) : Int)), .int .i64 (y), .map (some m), .int .i64 (d)]) 60 :: mp kI m (es) :: R) := h_
        clear h_
        (try simp only [Act.put, List.setIfInBounds_toArray, List.set_cons_zero, List.set_cons_succ])
        refine lo_nil ?_
        refine lt_over ?_
        refine lt_wp (fun K13 hK13 => ?_)
        refine wl_region ?_
        refine wl_give rfl (g_ia 3 _ _ .i64 (((j : Nat) : Int)) (1) (((j + 1 : Nat) : Int)) rfl rfl (e1.out) ?_)
        (try simp only [Act.put, List.setIfInBounds_toArray, List.set_cons_zero, List.set_cons_succ])
        refine wl_give rfl (g_move _ (.int .i64 (((j + 1 : Nat) : Int))) rfl ?_)
        (try simp only [Act.put, List.setIfInBounds_toArray, List.set_cons_zero, List.set_cons_succ])
        refine wl_nil ?_
        refine hK13 _ _ ?_
        (try clear hK13 K13)
        have h9 : Ms w0 w12 (blk (p) ([.int .i64 (((x : Nat) : Int)), .int .i64 (y), .map (some m), .int .i64 (d)]) 60 :: mp kI m (es) :: ch c (x) ((ts.drop (j + 1) ++ ts.take j).map Value.string ++ [.string t]) :: R) := (((hM.up 0 rfl).up 2 rfl).up 2 rfl)
        rw [show (ts.drop (j + 1) ++ ts.take j).map Value.string ++ [Value.string t] = (ts.drop (j + 1) ++ ts.take (j + 1)).map Value.string by rw [htk]; simp] at h9
        exact hrec (n - 1) _ _ (by have := hjl.out; omega) ⟨j + 1, true, _, _, _, _, _, _, _, _, _, _, _, _, _, rfl, by have := hjl.out; omega, by rw [htk]; unfold isin at *; rw [List.any_append, ← hhs]; simp [hts], h9⟩
      · skip
        refine lt_seq ?_
        refine lt_wp (fun K14 hK14 => ?_)
        refine wl_region ?_
        refine wl_give rfl (g_ilss 3 _ _ .i64 (((j : Nat) : Int)) (((ts.length : Nat) : Int)) true rfl rfl (decide_eq_true hlt) ?_)
        (try simp only [Act.put, List.setIfInBounds_toArray, List.set_cons_zero, List.set_cons_succ])
        refine wl_nil ?_
        refine hK14 _ _ ?_
        (try clear hK14 K14)
        refine lt_seq ?_
        refine lt_true rfl ?_
        refine lt_skip ?_
        refine lt_seq ?_
        refine lt_block ?_
        refine lt_seq ?_
        refine lt_region ?_
        refine lo_give rfl (g_move _ (.chan (some c)) rfl ?_)
        (try simp only [Act.put, List.setIfInBounds_toArray, List.set_cons_zero, List.set_cons_succ])
        refine lo_recv hbk Try.underlying61 Try.zeroValue9 rfl (show Ms w0 w (ch c (x) (.string t :: (ts.drop (j + 1) ++ ts.take j).map Value.string) :: blk (p) ([.int .i64 (((x : Nat) : Int)), .int .i64 (y), .map (some m), .int .i64 (d)]) 60 :: mp kI m (es) :: R) from (hM.up 2 rfl)) ?_
        intro w15 h_
        replace hM : Ms w0 w15 (ch c (x) ((ts.drop (j + 1) ++ ts.take j).map Value.string) :: blk (p) ([.int .i64 (((x : Nat) : Int)), .int .i64 (y), .map (some m), .int .i64 (d)]) 60 :: mp kI m (es) :: R) := h_
        clear h_
        (try simp only [Act.put, List.setIfInBounds_toArray, List.set_cons_zero, List.set_cons_succ])
        refine lo_give rfl (g_assign _ (.string (t)) rfl ?_)
        (try simp only [Act.put, List.setIfInBounds_toArray, List.set_cons_zero, List.set_cons_succ])
        refine lo_nil ?_
        refine lt_seq ?_
        refine lt_wp (fun K16 hK16 => ?_)
        refine wl_region ?_
        refine wl_give rfl (g_move _ (.bool false) rfl ?_)
        (try simp only [Act.put, List.setIfInBounds_toArray, List.set_cons_zero, List.set_cons_succ])
        refine wl_give rfl (g_move _ (.bool false) rfl ?_)
        (try simp only [Act.put, List.setIfInBounds_toArray, List.set_cons_zero, List.set_cons_succ])
        refine wl_give rfl (g_move _ (.string (t)) rfl ?_)
        (try simp only [Act.put, List.setIfInBounds_toArray, List.set_cons_zero, List.set_cons_succ])
        refine wl_give rfl (g_move _ (.string (s)) rfl ?_)
        (try simp only [Act.put, List.setIfInBounds_toArray, List.set_cons_zero, List.set_cons_succ])
        refine wl_give rfl (g_steq 9 _ _ (t) (s) false rfl rfl (decide_eq_false hts) ?_)
        (try simp only [Act.put, List.setIfInBounds_toArray, List.set_cons_zero, List.set_cons_succ])
        refine wl_give rfl (g_pickf _ _ _ (.bool false) rfl rfl ?_)
        (try simp only [Act.put, List.setIfInBounds_toArray, List.set_cons_zero, List.set_cons_succ])
        refine wl_give rfl (g_assign _ (.bool false) rfl ?_)
        (try simp only [Act.put, List.setIfInBounds_toArray, List.set_cons_zero, List.set_cons_succ])
        refine wl_nil ?_
        refine hK16 _ _ ?_
        (try clear hK16 K16)
        refine lt_region ?_
        refine lo_give rfl (g_move _ (.chan (some c)) rfl ?_)
        (try simp only [Act.put, List.setIfInBounds_toArray, List.set_cons_zero, List.set_cons_succ])
        refine lo_give rfl (g_move _ (.string (t)) rfl ?_)
        (try simp only [Act.put, List.setIfInBounds_toArray, List.set_cons_zero, List.set_cons_succ])
        refine lo_send hbk rfl rfl hM (e2.out) ?_
        intro w17 h_
        replace hM : Ms w0 w17 (ch c (x) ((ts.drop (j + 1) ++ ts.take j).map Value.string ++ [.string (t)]) :: blk (p) ([.int .i64 (((x : Nat) : Int)), .int .i64 (y), .map (some m), .int .i64 (d)]) 60 :: mp kI m (es) :: R) := h_
        clear h_
        (try simp only [Act.put, List.setIfInBounds_toArray, List.set_cons_zero, List.set_cons_succ])
        refine lo_nil ?_
        refine lt_over ?_
        refine lt_wp (fun K18 hK18 => ?_)
        refine wl_region ?_
        refine wl_give rfl (g_ia 3 _ _ .i64 (((j : Nat) : Int)) (1) (((j + 1 : Nat) : Int)) rfl rfl (e1.out) ?_)
        (try simp only [Act.put, List.setIfInBounds_toArray, List.set_cons_zero, List.set_cons_succ])
        refine wl_give rfl (g_move _ (.int .i64 (((j + 1 : Nat) : Int))) rfl ?_)
        (try simp only [Act.put, List.setIfInBounds_toArray, List.set_cons_zero, List.set_cons_succ])
        refine wl_nil ?_
        refine hK18 _ _ ?_
        (try clear hK18 K18)
        have h9 : Ms w0 w17 (blk (p) ([.int .i64 (((x : Nat) : Int)), .int .i64 (y), .map (some m), .int .i64 (d)]) 60 :: mp kI m (es) :: ch c (x) ((ts.drop (j + 1) ++ ts.take j).map Value.string ++ [.string t]) :: R) := (((hM.up 0 rfl).up 2 rfl).up 2 rfl)
        rw [show (ts.drop (j + 1) ++ ts.take j).map Value.string ++ [Value.string t] = (ts.drop (j + 1) ++ ts.take (j + 1)).map Value.string by rw [htk]; simp] at h9
        exact hrec (n - 1) _ _ (by have := hjl.out; omega) ⟨j + 1, false, _, _, _, _, _, _, _, _, _, _, _, _, _, rfl, by have := hjl.out; omega, by rw [htk]; unfold isin at *; rw [List.any_append, ← hhs]; simp [hts], h9⟩
  · have hjn : j = ts.length := by omega
    subst hjn
    have e5 : (ts.drop ts.length ++ ts.take ts.length) = ts := by simp
    rw [e5] at hM
    refine lt_seq ?_
    refine lt_wp (fun K19 hK19 => ?_)
    refine wl_region ?_
    refine wl_give rfl (g_ilss 3 _ _ .i64 (((ts.length : Nat) : Int)) (((ts.length : Nat) : Int)) false rfl rfl (decide_eq_false hlt) ?_)
    (try simp only [Act.put, List.setIfInBounds_toArray, List.set_cons_zero, List.set_cons_succ])
    refine wl_nil ?_
    refine hK19 _ _ ?_
    (try clear hK19 K19)
    refine lt_seq ?_
    refine lt_false rfl ?_
    refine lt_exit rfl ?_
    refine lt_seq ?_
    refine lt_wp (fun K20 hK20 => ?_)
    refine wl_region ?_
    refine wl_give rfl (g_move _ (.bool (hs)) rfl ?_)
    (try simp only [Act.put, List.setIfInBounds_toArray, List.set_cons_zero, List.set_cons_succ])
    refine wl_give rfl (g_assign _ (.bool (hs)) rfl ?_)
    (try simp only [Act.put, List.setIfInBounds_toArray, List.set_cons_zero, List.set_cons_succ])
    refine wl_nil ?_
    refine hK20 _ _ ?_
    (try clear hK20 K20)
    rw [List.take_length] at hhs
    subst hhs
    refine lt_ret hbf hbk Try.func25 rfl (results_tmp rfl _ _ _) ⟨rfl, (((hM.up 2 rfl).up 2 rfl).up 2 rfl)⟩
set_option maxHeartbeats 4000000 in
theorem has_out {w0 w : World} {R : List HP} {p m x : Nat} {y d i : Int} {s : ByteArray} {es : List (Int × Value)} (hM : Ms w0 w (blk (p) ([.int .i64 (((x : Nat) : Int)), .int .i64 (y), .map (some m), .int .i64 (d)]) 60 :: mp kI m (es) :: R)) (hl : mlook es i = none) : Calls Try.prog 25 #[.pointer (some ⟨p, 0, none⟩), .int .i64 i, .string s] w fun e w' => e = .returned (.bool false) ∧ Ms w0 w' (blk (p) ([.int .i64 (((x : Nat) : Int)), .int .i64 (y), .map (some m), .int .i64 (d)]) 60 :: mp kI m (es) :: R) := by
  refine calls_of_lt Try.func25 rfl (fun b cs hbf hbk => ?_)
  simp only [Try.ntmps25, List.size_toArray, List.length_cons, List.length_nil, Nat.reduceAdd, Nat.reduceSub, Array.replicate_succ, Array.replicate_zero, List.push_toArray, List.append_toArray, List.nil_append, List.cons_append]
  refine lt_seq ?_
  refine lt_wp (fun K1 hK1 => ?_)
  refine wl_region ?_
  refine wl_give rfl (g_assign _ (.bool false) rfl ?_)
  (try simp only [Act.put, List.setIfInBounds_toArray, List.set_cons_zero, List.set_cons_succ])
  refine wl_nil ?_
  refine hK1 _ _ ?_
  (try clear hK1 K1)
  refine lt_seq ?_
  refine lt_wp (fun K2 hK2 => ?_)
  refine wl_region ?_
  refine wl_give rfl (g_move _ (.pointer (some ⟨p, 0, none⟩)) rfl ?_)
  (try simp only [Act.put, List.setIfInBounds_toArray, List.set_cons_zero, List.set_cons_succ])
  refine wl_give rfl (g_nil _ ⟨p, 0, none⟩ rfl ?_)
  (try simp only [Act.put, List.setIfInBounds_toArray, List.set_cons_zero, List.set_cons_succ])
  refine wl_give rfl (g_fa 60 _ (p) (0) (2) 2 rfl (fa60_2 _ _ _) ?_)
  (try simp only [Act.put, List.setIfInBounds_toArray, List.set_cons_zero, List.set_cons_succ])
  refine wl_give rfl (g_ld1 58 _ (p) 2 _ rfl (ld58 _ _ _ _ ((hM.get 0 rfl).cell 2 _ rfl)) ?_)
  (try simp only [Act.put, List.setIfInBounds_toArray, List.set_cons_zero, List.set_cons_succ])
  refine wl_give rfl (g_move _ (.int .i64 (i)) rfl ?_)
  (try simp only [Act.put, List.setIfInBounds_toArray, List.set_cons_zero, List.set_cons_succ])
  refine wl_give rfl (g_look keyI Try.underlying58 Try.zeroValue61 _ _ (i) (.chan none) rfl rfl (show Ms w0 _ (mp kI m (es) :: blk (p) ([.int .i64 (((x : Nat) : Int)), .int .i64 (y), .map (some m), .int .i64 (d)]) 60 :: R) from (hM.up 1 rfl)) (by rw [hl]; rfl) ?_)
  (try simp only [Act.put, List.setIfInBounds_toArray, List.set_cons_zero, List.set_cons_succ])
  refine wl_give rfl (g_assign _ (.chan none) rfl ?_)
  (try simp only [Act.put, List.setIfInBounds_toArray, List.set_cons_zero, List.set_cons_succ])
  refine wl_give rfl (g_assign _ (.bool false) rfl ?_)
  (try simp only [Act.put, List.setIfInBounds_toArray, List.set_cons_zero, List.set_cons_succ])
  refine wl_nil ?_
  refine hK2 _ _ ?_
  (try clear hK2 K2)
  refine lt_seq ?_
  refine lt_seq ?_
  refine lt_wp (fun K3 hK3 => ?_)
  refine wl_region ?_
  refine wl_give rfl (g_move _ (.chan none) rfl ?_)
  (try simp only [Act.put, List.setIfInBounds_toArray, List.set_cons_zero, List.set_cons_succ])
  refine wl_give rfl (g_lenC0 _ rfl ?_)
  (try simp only [Act.put, List.setIfInBounds_toArray, List.set_cons_zero, List.set_cons_succ])
  refine wl_give rfl (g_move _ (.int .i64 (0)) rfl ?_)
  (try simp only [Act.put, List.setIfInBounds_toArray, List.set_cons_zero, List.set_cons_succ])
  refine wl_nil ?_
  refine hK3 _ _ ?_
  (try clear hK3 K3)
  refine lt_block ?_
  refine lt_loop ?_
  refine lt_seq ?_
  refine lt_wp (fun K4 hK4 => ?_)
  refine wl_region ?_
  refine wl_give rfl (g_ilss 3 _ _ .i64 (0) (0) false rfl rfl (by decide) ?_)
  (try simp only [Act.put, List.setIfInBounds_toArray, List.set_cons_zero, List.set_cons_succ])
  refine wl_nil ?_
  refine hK4 _ _ ?_
  (try clear hK4 K4)
  refine lt_seq ?_
  refine lt_false rfl ?_
  refine lt_exit rfl ?_
  refine lt_seq ?_
  refine lt_wp (fun K5 hK5 => ?_)
  refine wl_region ?_
  refine wl_give rfl (g_move _ (.bool false) rfl ?_)
  (try simp only [Act.put, List.setIfInBounds_toArray, List.set_cons_zero, List.set_cons_succ])
  refine wl_give rfl (g_assign _ (.bool false) rfl ?_)
  (try simp only [Act.put, List.setIfInBounds_toArray, List.set_cons_zero, List.set_cons_succ])
  refine wl_nil ?_
  refine hK5 _ _ ?_
  (try clear hK5 K5)
  refine lt_ret hbf hbk Try.func25 rfl (results_tmp rfl _ _ _) ⟨rfl, hM⟩
end Go.Proofs.Ytpkjocibgmjhdaa
