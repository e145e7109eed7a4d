/- What Take answers, where the interval's channel is known, or is none. -/
import Derived.Test.YtpkjocibgmjhdaaBf4
namespace Go.Proofs.Ytpkjocibgmjhdaa
set_option maxRecDepth 10000
open Go Go.RowKit
set_option linter.unusedVariables false
set_option linter.unusedSimpArgs false

set_option maxHeartbeats 4000000 in
theorem take_in {w0 w : World} {R : List HP} {p m x : Nat} {y d i : Int} {es : List (Int × Value)} {c : Nat} {ts : List ByteArray} (hM : Ms w0 w (blk (p) ([.int .i64 (((x : Nat) : Int)), .int .i64 (y), .map (some m), .int .i64 (d)]) 60 :: mp kI m (es) :: ch c (x) ((ts).map Value.string) :: R)) (hl : mlook es i = some (.chan (some c))) (hx : ts.length ≤ 10000) : Calls Try.prog 17 #[.pointer (some ⟨p, 0, none⟩), .int .i64 i] w fun e w' => ∃ v, e = .returned v ∧ Ms w0 w' (row 9 1 v ts.length ((ts).map Value.string) :: blk (p) ([.int .i64 (((x : Nat) : Int)), .int .i64 (y), .map (some m), .int .i64 (d)]) 60 :: mp kI m (mdel es i) :: R) := by
  refine calls_of_ltv Try.func17 rfl (fun b cs hbf hbk => ?_)
  simp only [Try.ntmps17, List.size_toArray, List.length_cons, List.length_nil, Nat.reduceAdd, Nat.reduceSub, Array.replicate_succ, Array.replicate_zero, List.push_toArray, List.append_toArray, List.nil_append, List.cons_append]
  refine lt_seq ?_
  refine lt_wp (fun K1 hK1 => ?_)
  refine wl_region ?_
  refine wl_give rfl (g_assign _ (.slice none (0) (0)) rfl ?_)
  (try simp only [Act.put, List.setIfInBounds_toArray, List.set_cons_zero, List.set_cons_succ])
  refine wl_nil ?_
  refine hK1 _ _ ?_
  (try clear hK1 K1)
  refine lt_seq ?_
  refine lt_wp (fun K2 hK2 => ?_)
  refine wl_region ?_
  refine wl_give rfl (g_assign _ (.slice none (0) (0)) rfl ?_)
  (try simp only [Act.put, List.setIfInBounds_toArray, List.set_cons_zero, List.set_cons_succ])
  refine wl_nil ?_
  refine hK2 _ _ ?_
  (try clear hK2 K2)
  refine lt_seq ?_
  refine lt_wp (fun K3 hK3 => ?_)
  refine wl_region ?_
  refine wl_give rfl (g_move _ (.pointer (some ⟨p, 0, none⟩)) rfl ?_)
  (try simp only [Act.put, List.setIfInBounds_toArray, List.set_cons_zero, List.set_cons_succ])
  refine wl_give rfl (g_nil _ ⟨p, 0, none⟩ rfl ?_)
  (try simp only [Act.put, List.setIfInBounds_toArray, List.set_cons_zero, List.set_cons_succ])
  refine wl_give rfl (g_fa 60 _ (p) (0) (2) 2 rfl (fa60_2 _ _ _) ?_)
  (try simp only [Act.put, List.setIfInBounds_toArray, List.set_cons_zero, List.set_cons_succ])
  refine wl_give rfl (g_ld1 58 _ (p) 2 _ rfl (ld58 _ _ _ _ ((hM.get 0 rfl).cell 2 _ rfl)) ?_)
  (try simp only [Act.put, List.setIfInBounds_toArray, List.set_cons_zero, List.set_cons_succ])
  refine wl_give rfl (g_move _ (.int .i64 (i)) rfl ?_)
  (try simp only [Act.put, List.setIfInBounds_toArray, List.set_cons_zero, List.set_cons_succ])
  refine wl_give rfl (g_look keyI Try.underlying58 Try.zeroValue61 _ _ (i) (.chan (some c)) rfl rfl (show Ms w0 _ (mp kI m (es) :: blk (p) ([.int .i64 (((x : Nat) : Int)), .int .i64 (y), .map (some m), .int .i64 (d)]) 60 :: ch c (x) ((ts).map Value.string) :: R) from (hM.up 1 rfl)) (by rw [hl]; rfl) ?_)
  (try simp only [Act.put, List.setIfInBounds_toArray, List.set_cons_zero, List.set_cons_succ])
  refine wl_give rfl (g_assign _ (.chan (some c)) rfl ?_)
  (try simp only [Act.put, List.setIfInBounds_toArray, List.set_cons_zero, List.set_cons_succ])
  refine wl_nil ?_
  refine hK3 _ _ ?_
  (try clear hK3 K3)
  refine lt_seq ?_
  refine lt_seq ?_
  refine lt_wp (fun K4 hK4 => ?_)
  refine wl_region ?_
  refine wl_give rfl (g_move _ (.chan (some c)) rfl ?_)
  (try simp only [Act.put, List.setIfInBounds_toArray, List.set_cons_zero, List.set_cons_succ])
  refine wl_give rfl (g_lenC _ (((ts.length : Nat) : Int)) rfl (show Ms w0 _ (ch c (x) ((ts).map Value.string) :: blk (p) ([.int .i64 (((x : Nat) : Int)), .int .i64 (y), .map (some m), .int .i64 (d)]) 60 :: mp kI m (es) :: R) from (hM.up 2 rfl)) (by simp) ?_)
  (try simp only [Act.put, List.setIfInBounds_toArray, List.set_cons_zero, List.set_cons_succ])
  refine wl_give rfl (g_move _ (.int .i64 (0)) rfl ?_)
  (try simp only [Act.put, List.setIfInBounds_toArray, List.set_cons_zero, List.set_cons_succ])
  refine wl_nil ?_
  refine hK4 _ _ ?_
  (try clear hK4 K4)
  refine lt_block ?_
  have h9 : Ms w0 w (row 9 1 (.slice none 0 0) (0) ([]) :: blk (p) ([.int .i64 (((x : Nat) : Int)), .int .i64 (y), .map (some m), .int .i64 (d)]) 60 :: mp kI m (es) :: ch c (x) ((ts).map Value.string) :: R) := row_nil hM
  clear hM
  refine lt_rounds (fun n a w => ∃ (j : Nat) (v : Value) (t16 t17 t18 t19 t20 t21 t22 : Value), a = ⟨#[.pointer (some ⟨p, 0, none⟩), .int .i64 (i), undef, undef, .slice none (0) (0), v, .chan (some c), .pointer (some ⟨p, 0, none⟩), .pointer (some ⟨p, 0, none⟩), .pointer (some ⟨p, 2, none⟩), .map (some m), .int .i64 (i), .chan (some c), .chan (some c), .int .i64 (((ts.length : Nat) : Int)), .int .i64 ((j : Nat) : Int), t16, t17, t18, t19, t20, t21, t22, undef, undef, undef, undef, undef, undef], []⟩ ∧ j + n = ts.length ∧ Ms w0 w (row 9 1 v (j) ((ts.take j).map Value.string) :: blk (p) ([.int .i64 (((x : Nat) : Int)), .int .i64 (y), .map (some m), .int .i64 (d)]) 60 :: mp kI m (es) :: ch c (x) ((ts.drop j).map Value.string) :: R)) ts.length ⟨0, .slice none 0 0, _, _, _, _, _, _, _, rfl, Nat.zero_add _, by simpa using h9⟩ ?_
  clear h9
  rintro n a w hrec ⟨j, v, t16, t17, t18, t19, t20, t21, t22, rfl, hj, hM⟩
  by_cases hlt : ((j : Nat) : Int) < ((ts.length : Nat) : Int)
  · obtain ⟨t, ht⟩ : ∃ t, ts[j]? = some t := ⟨_, List.getElem?_eq_getElem (by omega)⟩
    have hjl : Shut (j < ts.length) := ⟨by omega⟩
    have hd : ts.drop j = t :: ts.drop (j + 1) := by rw [List.drop_eq_getElem_cons hjl.out]; congr 1; rw [List.getElem?_eq_getElem hjl.out] at ht; exact Option.some.inj ht
    have htk : ts.take (j + 1) = ts.take j ++ [t] := by rw [List.take_add_one, ht]; rfl
    have e1 : Shut (IntKind.i64.wrap (((j : Nat) : Int) + 1) = ((j + 1 : Nat) : Int)) := ⟨by rw [wrap_id _ (by omega) (by omega)]; omega⟩
    replace hM : Ms w0 w (row 9 1 v (j) ((ts.take j).map Value.string) :: blk (p) ([.int .i64 (((x : Nat) : Int)), .int .i64 (y), .map (some m), .int .i64 (d)]) 60 :: mp kI m (es) :: ch c (x) (.string t :: (ts.drop (j + 1)).map Value.string) :: R) := by rw [hd, List.map_cons] at hM; exact hM
    refine lt_seq ?_
    refine lt_wp (fun K5 hK5 => ?_)
    refine wl_region ?_
    refine wl_give rfl (g_ilss 3 _ _ .i64 (((j : Nat) : Int)) (((ts.length : Nat) : Int)) true rfl rfl (decide_eq_true hlt) ?_)
    (try simp only [Act.put, List.setIfInBounds_toArray, List.set_cons_zero, List.set_cons_succ])
    refine wl_nil ?_
    refine hK5 _ _ ?_
    (try clear hK5 K5)
    refine lt_seq ?_
    refine lt_true rfl ?_
    refine lt_skip ?_
    refine lt_seq ?_
    refine lt_block ?_
    refine lt_region ?_
    refine lo_give rfl (g_move _ (v) rfl ?_)
    (try simp only [Act.put, List.setIfInBounds_toArray, List.set_cons_zero, List.set_cons_succ])
    refine lo_give rfl (g_move _ (.chan (some c)) rfl ?_)
    (try simp only [Act.put, List.setIfInBounds_toArray, List.set_cons_zero, List.set_cons_succ])
    refine lo_recv hbk Try.underlying61 Try.zeroValue9 rfl (show Ms w0 w (ch c (x) (.string t :: (ts.drop (j + 1)).map Value.string) :: row 9 1 v (j) ((ts.take j).map Value.string) :: blk (p) ([.int .i64 (((x : Nat) : Int)), .int .i64 (y), .map (some m), .int .i64 (d)]) 60 :: mp kI m (es) :: R) from (hM.up 3 rfl)) ?_
    intro w6 h_
    replace hM : Ms w0 w6 (ch c (x) ((ts.drop (j + 1)).map Value.string) :: row 9 1 v (j) ((ts.take j).map Value.string) :: blk (p) ([.int .i64 (((x : Nat) : Int)), .int .i64 (y), .map (some m), .int .i64 (d)]) 60 :: mp kI m (es) :: R) := h_
    clear h_
    (try simp only [Act.put, List.setIfInBounds_toArray, List.set_cons_zero, List.set_cons_succ])
    refine lo_give rfl (g_bs1 36 9 Try.underlying36 szof9 _ Try.zeroValue9 rfl _ (.string (t)) rfl rfl hM ?_)
    intro w7 h_
    replace hM : Ms w0 w7 (blk (w6.heap.size) [.string (t)] 9 :: ch c (x) ((ts.drop (j + 1)).map Value.string) :: row 9 1 v (j) ((ts.take j).map Value.string) :: blk (p) ([.int .i64 (((x : Nat) : Int)), .int .i64 (y), .map (some m), .int .i64 (d)]) 60 :: mp kI m (es) :: R) := h_
    clear h_
    (try simp only [Act.put, List.setIfInBounds_toArray, List.set_cons_zero, List.set_cons_succ])
    refine lo_give rfl (g_apS _ _ (v) (j) ((ts.take j).map Value.string) (w6.heap.size) 1 ([.string (t)]) 9 rfl rfl (show Ms w0 w7 (row 9 1 v (j) ((ts.take j).map Value.string) :: blk (w6.heap.size) [.string (t)] 9 :: ch c (x) ((ts.drop (j + 1)).map Value.string) :: blk (p) ([.int .i64 (((x : Nat) : Int)), .int .i64 (y), .map (some m), .int .i64 (d)]) 60 :: mp kI m (es) :: R) from (hM.up 2 rfl)) rfl (by simp [Value.oneCell']) (by have := hjl.out; omega) ?_)
    intro v9 w8 h_
    replace hM : Ms w0 w8 (row 9 1 v9 (j + 1) ((ts.take j).map Value.string ++ [.string (t)]) :: blk (w6.heap.size) [.string (t)] 9 :: ch c (x) ((ts.drop (j + 1)).map Value.string) :: blk (p) ([.int .i64 (((x : Nat) : Int)), .int .i64 (y), .map (some m), .int .i64 (d)]) 60 :: mp kI m (es) :: R) := h_
    clear h_
    (try simp only [Act.put, List.setIfInBounds_toArray, List.set_cons_zero, List.set_cons_succ])
    refine lo_give rfl (g_assign _ (v9) rfl ?_)
    (try simp only [Act.put, List.setIfInBounds_toArray, List.set_cons_zero, List.set_cons_succ])
    refine lo_nil ?_
    refine lt_over ?_
    refine lt_wp (fun K10 hK10 => ?_)
    refine wl_region ?_
    refine wl_give rfl (g_ia 3 _ _ .i64 (((j : Nat) : Int)) (1) (((j + 1 : Nat) : Int)) rfl rfl (e1.out) ?_)
    (try simp only [Act.put, List.setIfInBounds_toArray, List.set_cons_zero, List.set_cons_succ])
    refine wl_give rfl (g_move _ (.int .i64 (((j + 1 : Nat) : Int))) rfl ?_)
    (try simp only [Act.put, List.setIfInBounds_toArray, List.set_cons_zero, List.set_cons_succ])
    refine wl_nil ?_
    refine hK10 _ _ ?_
    (try clear hK10 K10)
    have h9 : Ms w0 w8 (row 9 1 v9 (j + 1) ((ts.take j).map Value.string ++ [.string (t)]) :: blk (p) ([.int .i64 (((x : Nat) : Int)), .int .i64 (y), .map (some m), .int .i64 (d)]) 60 :: mp kI m (es) :: ch c (x) ((ts.drop (j + 1)).map Value.string) :: blk (w6.heap.size) [.string (t)] 9 :: R) := ((((hM.up 2 rfl).up 4 rfl).up 4 rfl).up 3 rfl)
    have h10 : Ms w0 w8 (row 9 1 v9 (j + 1) ((ts.take j).map Value.string ++ [.string (t)]) :: blk (p) ([.int .i64 (((x : Nat) : Int)), .int .i64 (y), .map (some m), .int .i64 (d)]) 60 :: mp kI m (es) :: ch c (x) ((ts.drop (j + 1)).map Value.string) :: R) := h9.erase 4
    rw [show (ts.take j).map Value.string ++ [Value.string (t)] = (ts.take (j + 1)).map Value.string by rw [htk]; simp] at h10
    exact hrec (n - 1) _ _ (by have := hjl.out; omega) ⟨j + 1, _, _, _, _, _, _, _, _, rfl, by have := hjl.out; omega, h10⟩
  · have hjn : j = ts.length := by omega
    subst hjn
    rw [List.take_length, List.drop_length] at hM
    replace hM : Ms w0 w (row 9 1 v (ts.length) ((ts).map Value.string) :: blk (p) ([.int .i64 (((x : Nat) : Int)), .int .i64 (y), .map (some m), .int .i64 (d)]) 60 :: mp kI m (es) :: ch c (x) ([]) :: R) := hM
    refine lt_seq ?_
    refine lt_wp (fun K11 hK11 => ?_)
    refine wl_region ?_
    refine wl_give rfl (g_ilss 3 _ _ .i64 (((ts.length : Nat) : Int)) (((ts.length : Nat) : Int)) false rfl rfl (decide_eq_false hlt) ?_)
    (try simp only [Act.put, List.setIfInBounds_toArray, List.set_cons_zero, List.set_cons_succ])
    refine wl_nil ?_
    refine hK11 _ _ ?_
    (try clear hK11 K11)
    refine lt_seq ?_
    refine lt_false rfl ?_
    refine lt_exit rfl ?_
    refine lt_seq ?_
    refine lt_wp (fun K12 hK12 => ?_)
    refine wl_region ?_
    refine wl_give rfl (g_move _ (.pointer (some ⟨p, 0, none⟩)) rfl ?_)
    (try simp only [Act.put, List.setIfInBounds_toArray, List.set_cons_zero, List.set_cons_succ])
    refine wl_give rfl (g_nil _ ⟨p, 0, none⟩ rfl ?_)
    (try simp only [Act.put, List.setIfInBounds_toArray, List.set_cons_zero, List.set_cons_succ])
    refine wl_give rfl (g_fa 60 _ (p) (0) (2) 2 rfl (fa60_2 _ _ _) ?_)
    (try simp only [Act.put, List.setIfInBounds_toArray, List.set_cons_zero, List.set_cons_succ])
    refine wl_give rfl (g_ld1 58 _ (p) 2 _ rfl (ld58 _ _ _ _ ((hM.get 1 rfl).cell 2 _ rfl)) ?_)
    (try simp only [Act.put, List.setIfInBounds_toArray, List.set_cons_zero, List.set_cons_succ])
    refine wl_give rfl (g_move _ (.int .i64 (i)) rfl ?_)
    (try simp only [Act.put, List.setIfInBounds_toArray, List.set_cons_zero, List.set_cons_succ])
    refine wl_give rfl (g_mdel keyI Try.underlying58 _ _ (i) rfl rfl (show Ms w0 w (mp kI m (es) :: row 9 1 v (ts.length) ((ts).map Value.string) :: blk (p) ([.int .i64 (((x : Nat) : Int)), .int .i64 (y), .map (some m), .int .i64 (d)]) 60 :: ch c (x) ([]) :: R) from (hM.up 2 rfl)) ?_)
    intro w13 h_
    replace hM : Ms w0 w13 (mp kI m (mdel (es) (i)) :: row 9 1 v (ts.length) ((ts).map Value.string) :: blk (p) ([.int .i64 (((x : Nat) : Int)), .int .i64 (y), .map (some m), .int .i64 (d)]) 60 :: ch c (x) ([]) :: R) := h_
    clear h_
    (try simp only [Act.put, List.setIfInBounds_toArray, List.set_cons_zero, List.set_cons_succ])
    refine wl_nil ?_
    refine hK12 _ _ ?_
    (try clear hK12 K12)
    refine lt_seq ?_
    refine lt_wp (fun K14 hK14 => ?_)
    refine wl_region ?_
    refine wl_give rfl (g_move _ (v) rfl ?_)
    (try simp only [Act.put, List.setIfInBounds_toArray, List.set_cons_zero, List.set_cons_succ])
    refine wl_give rfl (g_assign _ (v) rfl ?_)
    (try simp only [Act.put, List.setIfInBounds_toArray, List.set_cons_zero, List.set_cons_succ])
    refine wl_nil ?_
    refine hK14 _ _ ?_
    (try clear hK14 K14)
    have h9 : Ms w0 w13 (row 9 1 v (ts.length) ((ts).map Value.string) :: blk (p) ([.int .i64 (((x : Nat) : Int)), .int .i64 (y), .map (some m), .int .i64 (d)]) 60 :: mp kI m (mdel (es) (i)) :: ch c (x) ([]) :: R) := (((hM.up 0 rfl).up 2 rfl).up 2 rfl)
    have h10 : Ms w0 w13 (row 9 1 v (ts.length) ((ts).map Value.string) :: blk (p) ([.int .i64 (((x : Nat) : Int)), .int .i64 (y), .map (some m), .int .i64 (d)]) 60 :: mp kI m (mdel (es) (i)) :: R) := h9.erase 3
    refine lt_ret (v := v) hbf hbk Try.func17 rfl ((results_tmp (t := 4) rfl _ _ _).trans rfl) ⟨_, rfl, h10⟩
set_option maxHeartbeats 4000000 in
theorem take_out {w0 w : World} {R : List HP} {p m x : Nat} {y d i : Int} {es : List (Int × Value)} (hM : Ms w0 w (blk (p) ([.int .i64 (((x : Nat) : Int)), .int .i64 (y), .map (some m), .int .i64 (d)]) 60 :: mp kI m (es) :: R)) (hl : mlook es i = none) : Calls Try.prog 17 #[.pointer (some ⟨p, 0, none⟩), .int .i64 i] w fun e w' => ∃ v, e = .returned v ∧ Ms w0 w' (row 9 1 v 0 ([]) :: blk (p) ([.int .i64 (((x : Nat) : Int)), .int .i64 (y), .map (some m), .int .i64 (d)]) 60 :: mp kI m (mdel es i) :: R) := by
  refine calls_of_ltv Try.func17 rfl (fun b cs hbf hbk => ?_)
  simp only [Try.ntmps17, List.size_toArray, List.length_cons, List.length_nil, Nat.reduceAdd, Nat.reduceSub, Array.replicate_succ, Array.replicate_zero, List.push_toArray, List.append_toArray, List.nil_append, List.cons_append]
  refine lt_seq ?_
  refine lt_wp (fun K1 hK1 => ?_)
  refine wl_region ?_
  refine wl_give rfl (g_assign _ (.slice none (0) (0)) rfl ?_)
  (try simp only [Act.put, List.setIfInBounds_toArray, List.set_cons_zero, List.set_cons_succ])
  refine wl_nil ?_
  refine hK1 _ _ ?_
  (try clear hK1 K1)
  refine lt_seq ?_
  refine lt_wp (fun K2 hK2 => ?_)
  refine wl_region ?_
  refine wl_give rfl (g_assign _ (.slice none (0) (0)) rfl ?_)
  (try simp only [Act.put, List.setIfInBounds_toArray, List.set_cons_zero, List.set_cons_succ])
  refine wl_nil ?_
  refine hK2 _ _ ?_
  (try clear hK2 K2)
  refine lt_seq ?_
  refine lt_wp (fun K3 hK3 => ?_)
  refine wl_region ?_
  refine wl_give rfl (g_move _ (.pointer (some ⟨p, 0, none⟩)) rfl ?_)
  (try simp only [Act.put, List.setIfInBounds_toArray, List.set_cons_zero, List.set_cons_succ])
  refine wl_give rfl (g_nil _ ⟨p, 0, none⟩ rfl ?_)
  (try simp only [Act.put, List.setIfInBounds_toArray, List.set_cons_zero, List.set_cons_succ])
  refine wl_give rfl (g_fa 60 _ (p) (0) (2) 2 rfl (fa60_2 _ _ _) ?_)
  (try simp only [Act.put, List.setIfInBounds_toArray, List.set_cons_zero, List.set_cons_succ])
  refine wl_give rfl (g_ld1 58 _ (p) 2 _ rfl (ld58 _ _ _ _ ((hM.get 0 rfl).cell 2 _ rfl)) ?_)
  (try simp only [Act.put, List.setIfInBounds_toArray, List.set_cons_zero, List.set_cons_succ])
  refine wl_give rfl (g_move _ (.int .i64 (i)) rfl ?_)
  (try simp only [Act.put, List.setIfInBounds_toArray, List.set_cons_zero, List.set_cons_succ])
  refine wl_give rfl (g_look keyI Try.underlying58 Try.zeroValue61 _ _ (i) (.chan none) rfl rfl (show Ms w0 _ (mp kI m (es) :: blk (p) ([.int .i64 (((x : Nat) : Int)), .int .i64 (y), .map (some m), .int .i64 (d)]) 60 :: R) from (hM.up 1 rfl)) (by rw [hl]; rfl) ?_)
  (try simp only [Act.put, List.setIfInBounds_toArray, List.set_cons_zero, List.set_cons_succ])
  refine wl_give rfl (g_assign _ (.chan none) rfl ?_)
  (try simp only [Act.put, List.setIfInBounds_toArray, List.set_cons_zero, List.set_cons_succ])
  refine wl_nil ?_
  refine hK3 _ _ ?_
  (try clear hK3 K3)
  refine lt_seq ?_
  refine lt_seq ?_
  refine lt_wp (fun K4 hK4 => ?_)
  refine wl_region ?_
  refine wl_give rfl (g_move _ (.chan none) rfl ?_)
  (try simp only [Act.put, List.setIfInBounds_toArray, List.set_cons_zero, List.set_cons_succ])
  refine wl_give rfl (g_lenC0 _ rfl ?_)
  (try simp only [Act.put, List.setIfInBounds_toArray, List.set_cons_zero, List.set_cons_succ])
  refine wl_give rfl (g_move _ (.int .i64 (0)) rfl ?_)
  (try simp only [Act.put, List.setIfInBounds_toArray, List.set_cons_zero, List.set_cons_succ])
  refine wl_nil ?_
  refine hK4 _ _ ?_
  (try clear hK4 K4)
  refine lt_block ?_
  refine lt_loop ?_
  refine lt_seq ?_
  refine lt_wp (fun K5 hK5 => ?_)
  refine wl_region ?_
  refine wl_give rfl (g_ilss 3 _ _ .i64 (0) (0) false rfl rfl (by decide) ?_)
  (try simp only [Act.put, List.setIfInBounds_toArray, List.set_cons_zero, List.set_cons_succ])
  refine wl_nil ?_
  refine hK5 _ _ ?_
  (try clear hK5 K5)
  refine lt_seq ?_
  refine lt_false rfl ?_
  refine lt_exit rfl ?_
  refine lt_seq ?_
  refine lt_wp (fun K6 hK6 => ?_)
  refine wl_region ?_
  refine wl_give rfl (g_move _ (.pointer (some ⟨p, 0, none⟩)) rfl ?_)
  (try simp only [Act.put, List.setIfInBounds_toArray, List.set_cons_zero, List.set_cons_succ])
  refine wl_give rfl (g_nil _ ⟨p, 0, none⟩ rfl ?_)
  (try simp only [Act.put, List.setIfInBounds_toArray, List.set_cons_zero, List.set_cons_succ])
  refine wl_give rfl (g_fa 60 _ (p) (0) (2) 2 rfl (fa60_2 _ _ _) ?_)
  (try simp only [Act.put, List.setIfInBounds_toArray, List.set_cons_zero, List.set_cons_succ])
  refine wl_give rfl (g_ld1 58 _ (p) 2 _ rfl (ld58 _ _ _ _ ((hM.get 0 rfl).cell 2 _ rfl)) ?_)
  (try simp only [Act.put, List.setIfInBounds_toArray, List.set_cons_zero, List.set_cons_succ])
  refine wl_give rfl (g_move _ (.int .i64 (i)) rfl ?_)
  (try simp only [Act.put, List.setIfInBounds_toArray, List.set_cons_zero, List.set_cons_succ])
  refine wl_give rfl (g_mdel keyI Try.underlying58 _ _ (i) rfl rfl (show Ms w0 w (mp kI m (es) :: blk (p) ([.int .i64 (((x : Nat) : Int)), .int .i64 (y), .map (some m), .int .i64 (d)]) 60 :: R) from (hM.up 1 rfl)) ?_)
  intro w7 h_
  replace hM : Ms w0 w7 (mp kI m (mdel (es) (i)) :: blk (p) ([.int .i64 (((x : Nat) : Int)), .int .i64 (y), .map (some m), .int .i64 (d)]) 60 :: R) := h_
  clear h_
  (try simp only [Act.put, List.setIfInBounds_toArray, List.set_cons_zero, List.set_cons_succ])
  refine wl_nil ?_
  refine hK6 _ _ ?_
  (try clear hK6 K6)
  refine lt_seq ?_
  refine lt_wp (fun K8 hK8 => ?_)
  refine wl_region ?_
  refine wl_give rfl (g_move _ (.slice none (0) (0)) rfl ?_)
  (try simp only [Act.put, List.setIfInBounds_toArray, List.set_cons_zero, List.set_cons_succ])
  refine wl_give rfl (g_assign _ (.slice none (0) (0)) rfl ?_)
  (try simp only [Act.put, List.setIfInBounds_toArray, List.set_cons_zero, List.set_cons_succ])
  refine wl_nil ?_
  refine hK8 _ _ ?_
  (try clear hK8 K8)
  refine lt_ret (v := .slice none 0 0) hbf hbk Try.func17 rfl ((results_tmp (t := 4) rfl _ _ _).trans rfl) ⟨_, rfl, row_nil ((hM.up 0 rfl).up 1 rfl)⟩
end Go.Proofs.Ytpkjocibgmjhdaa
