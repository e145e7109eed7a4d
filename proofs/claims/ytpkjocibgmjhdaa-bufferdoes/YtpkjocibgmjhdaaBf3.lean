/- What line and Put answer, where the interval's channel is known, or is none. -/
import Derived.Test.YtpkjocibgmjhdaaBf2
namespace Go.Proofs.Ytpkjocibgmjhdaa
set_option maxRecDepth 10000
open Go Go.RowKit
set_option linter.unusedVariables false
set_option linter.unusedSimpArgs false

set_option maxHeartbeats 4000000 in
theorem line_in {w0 w : World} {R : List HP} {p m x : Nat} {y d i : Int} {es : List (Int × Value)} {c : Nat} (hM : Ms w0 w (blk (p) ([.int .i64 (((x : Nat) : Int)), .int .i64 (y), .map (some m), .int .i64 (d)]) 60 :: mp kI m (es) :: R)) (hl : mlook es i = some (.chan (some c))) : Calls Try.prog 27 #[.pointer (some ⟨p, 0, none⟩), .int .i64 i] w fun e w' => e = .returned (.chan (some c)) ∧ Ms w0 w' (blk (p) ([.int .i64 (((x : Nat) : Int)), .int .i64 (y), .map (some m), .int .i64 (d)]) 60 :: mp kI m (es) :: R) := by
  go_enter Try.func27, Try.ntmps27
  refine wp_seq_k (fun K1 hK1 => ?_)
  refine wl_region ?_
  refine wl_give rfl (g_assign _ (.chan none) rfl ?_)
  (try simp only [Act.put, List.setIfInBounds_toArray, List.set_cons_zero, List.set_cons_succ])
  refine wl_nil ?_
  refine hK1 _ _ ?_
  (try clear hK1 K1)
  refine wp_seq_k (fun K2 hK2 => ?_)
  refine wp_seq_k (fun K3 hK3 => ?_)
  refine wp_region_fixed (by kernel_rfl) (by kernel_rfl) [.pointer (some ⟨p, 0, none⟩), .pointer (some ⟨p, 0, none⟩), .pointer (some ⟨p, 2, none⟩), .map (some m), .int .i64 (i), .chan (some c), .bool false, .bool false, undef, undef, undef, undef, undef, undef, undef, undef, undef, undef, .bool false] (by rfl) (fun wx => Ms w0 wx (blk (p) ([.int .i64 (((x : Nat) : Int)), .int .i64 (y), .map (some m), .int .i64 (d)]) 60 :: mp kI m (es) :: R)) hM.drew ?_ ?_
  · simp only [fullL, Act.put, List.setIfInBounds_toArray, List.set_cons_succ, List.set_cons_zero]
    refine ⟨?_, ?_, ?_, ?_, ?_, ?_, ?_, ?_, ?_, ?_, ?_, ?_, ?_, ?_, ?_, ?_, ?_, ?_, ?_, trivial⟩
    · exact fun wx hM => gw rfl (g_move _ (.pointer (some ⟨p, 0, none⟩)) rfl ⟨rfl, hM⟩)
    · exact fun wx hM => gw rfl (g_nil _ ⟨p, 0, none⟩ rfl ⟨rfl, hM⟩)
    · exact fun wx hM => gw rfl (g_fa 60 _ (p) (0) (2) 2 rfl (fa60_2 _ _ _) ⟨rfl, hM⟩)
    · exact fun wx hM => gw rfl (g_ld1 58 _ (p) 2 _ rfl (ld58 _ _ _ _ ((hM.get 0 rfl).cell 2 _ rfl)) ⟨rfl, hM⟩)
    · exact fun wx hM => gw rfl (g_move _ (.int .i64 (i)) rfl ⟨rfl, hM⟩)
    · exact fun wx hM => gw rfl (g_look keyI Try.underlying58 Try.zeroValue61 _ _ (i) (.chan (some c)) rfl rfl (show Ms w0 _ (mp kI m (es) :: blk (p) ([.int .i64 (((x : Nat) : Int)), .int .i64 (y), .map (some m), .int .i64 (d)]) 60 :: R) from (hM.up 1 rfl)) (by rw [hl]; rfl) ⟨rfl, hM⟩)
    · exact fun wx hM => gw rfl (g_ceq _ (some c) false rfl rfl ⟨rfl, hM⟩)
    · exact fun wx hM => gw rfl (g_move _ (.bool false) rfl ⟨rfl, hM⟩)
    · exact fun wx hM => gn rfl ⟨rfl, hM⟩
    · exact fun wx hM => gn rfl ⟨rfl, hM⟩
    · exact fun wx hM => gn rfl ⟨rfl, hM⟩
    · exact fun wx hM => gn rfl ⟨rfl, hM⟩
    · exact fun wx hM => gn rfl ⟨rfl, hM⟩
    · exact fun wx hM => gn rfl ⟨rfl, hM⟩
    · exact fun wx hM => gn rfl ⟨rfl, hM⟩
    · exact fun wx hM => gn rfl ⟨rfl, hM⟩
    · exact fun wx hM => gn rfl ⟨rfl, hM⟩
    · exact fun wx hM => gn rfl ⟨rfl, hM⟩
    · exact fun wx hM => gw rfl (g_pickf _ _ _ (.bool false) rfl rfl ⟨rfl, hM⟩)
  · simp only [fullL, Act.put, List.setIfInBounds_toArray, List.set_cons_succ, List.set_cons_zero]
    intro w4 hM
    refine hK3 _ _ ?_
    (try clear hK3 K3)
    refine wp_cond_false rfl ?_
    refine wp_skip ?_
    refine hK2 _ _ ?_
    (try clear hK2 K2)
    refine wp_seq_k (fun K5 hK5 => ?_)
    refine wl_region ?_
    refine wl_give rfl (g_move _ (.pointer (some ⟨p, 0, none⟩)) rfl ?_)
    (try simp only [Act.put, List.setIfInBounds_toArray, List.set_cons_zero, List.set_cons_succ])
    refine wl_give rfl (g_nil _ ⟨p, 0, none⟩ rfl ?_)
    (try simp only [Act.put, List.setIfInBounds_toArray, List.set_cons_zero, List.set_cons_succ])
    refine wl_give rfl (g_fa 60 _ (p) (0) (2) 2 rfl (fa60_2 _ _ _) ?_)
    (try simp only [Act.put, List.setIfInBounds_toArray, List.set_cons_zero, List.set_cons_succ])
    refine wl_give rfl (g_ld1 58 _ (p) 2 _ rfl (ld58 _ _ _ _ ((hM.get 0 rfl).cell 2 _ rfl)) ?_)
    (try simp only [Act.put, List.setIfInBounds_toArray, List.set_cons_zero, List.set_cons_succ])
    refine wl_give rfl (g_move _ (.int .i64 (i)) rfl ?_)
    (try simp only [Act.put, List.setIfInBounds_toArray, List.set_cons_zero, List.set_cons_succ])
    refine wl_give rfl (g_look keyI Try.underlying58 Try.zeroValue61 _ _ (i) (.chan (some c)) rfl rfl (show Ms w0 _ (mp kI m (es) :: blk (p) ([.int .i64 (((x : Nat) : Int)), .int .i64 (y), .map (some m), .int .i64 (d)]) 60 :: R) from (hM.up 1 rfl)) (by rw [hl]; rfl) ?_)
    (try simp only [Act.put, List.setIfInBounds_toArray, List.set_cons_zero, List.set_cons_succ])
    refine wl_give rfl (g_assign _ (.chan (some c)) rfl ?_)
    (try simp only [Act.put, List.setIfInBounds_toArray, List.set_cons_zero, List.set_cons_succ])
    refine wl_nil ?_
    refine hK5 _ _ ?_
    (try clear hK5 K5)
    refine wp_ret ?_
    go_ret
    exact ⟨rfl, hM⟩
set_option maxHeartbeats 4000000 in
theorem line_none {w0 w : World} {R : List HP} {p m x : Nat} {y d i : Int} {es : List (Int × Value)} (hM : Ms w0 w (blk (p) ([.int .i64 (((x : Nat) : Int)), .int .i64 (y), .map (some m), .int .i64 (d)]) 60 :: mp kI m (es) :: R)) (hl : mlook es i = none) (hn : ¬ ((es.length : Nat) : Int) < y) : Calls Try.prog 27 #[.pointer (some ⟨p, 0, none⟩), .int .i64 i] w fun e w' => e = .returned (.chan none) ∧ Ms w0 w' (blk (p) ([.int .i64 (((x : Nat) : Int)), .int .i64 (y), .map (some m), .int .i64 (d)]) 60 :: mp kI m (es) :: R) := by
  go_enter Try.func27, Try.ntmps27
  refine wp_seq_k (fun K1 hK1 => ?_)
  refine wl_region ?_
  refine wl_give rfl (g_assign _ (.chan none) rfl ?_)
  (try simp only [Act.put, List.setIfInBounds_toArray, List.set_cons_zero, List.set_cons_succ])
  refine wl_nil ?_
  refine hK1 _ _ ?_
  (try clear hK1 K1)
  refine wp_seq_k (fun K2 hK2 => ?_)
  refine wp_seq_k (fun K3 hK3 => ?_)
  refine wp_region_fixed (by kernel_rfl) (by kernel_rfl) [.pointer (some ⟨p, 0, none⟩), .pointer (some ⟨p, 0, none⟩), .pointer (some ⟨p, 2, none⟩), .map (some m), .int .i64 (i), .chan none, .bool true, .bool true, .pointer (some ⟨p, 0, none⟩), .pointer (some ⟨p, 0, none⟩), .pointer (some ⟨p, 2, none⟩), .map (some m), .int .i64 (((es.length : Nat) : Int)), .pointer (some ⟨p, 0, none⟩), .pointer (some ⟨p, 0, none⟩), .pointer (some ⟨p, 1, none⟩), .int .i64 (y), .bool false, .bool false] (by rfl) (fun wx => Ms w0 wx (blk (p) ([.int .i64 (((x : Nat) : Int)), .int .i64 (y), .map (some m), .int .i64 (d)]) 60 :: mp kI m (es) :: R)) hM.drew ?_ ?_
  · simp only [fullL, Act.put, List.setIfInBounds_toArray, List.set_cons_succ, List.set_cons_zero]
    refine ⟨?_, ?_, ?_, ?_, ?_, ?_, ?_, ?_, ?_, ?_, ?_, ?_, ?_, ?_, ?_, ?_, ?_, ?_, ?_, trivial⟩
    · exact fun wx hM => gw rfl (g_move _ (.pointer (some ⟨p, 0, none⟩)) rfl ⟨rfl, hM⟩)
    · exact fun wx hM => gw rfl (g_nil _ ⟨p, 0, none⟩ rfl ⟨rfl, hM⟩)
    · exact fun wx hM => gw rfl (g_fa 60 _ (p) (0) (2) 2 rfl (fa60_2 _ _ _) ⟨rfl, hM⟩)
    · exact fun wx hM => gw rfl (g_ld1 58 _ (p) 2 _ rfl (ld58 _ _ _ _ ((hM.get 0 rfl).cell 2 _ rfl)) ⟨rfl, hM⟩)
    · exact fun wx hM => gw rfl (g_move _ (.int .i64 (i)) rfl ⟨rfl, hM⟩)
    · exact fun wx hM => gw rfl (g_look keyI Try.underlying58 Try.zeroValue61 _ _ (i) (.chan none) rfl rfl (show Ms w0 _ (mp kI m (es) :: blk (p) ([.int .i64 (((x : Nat) : Int)), .int .i64 (y), .map (some m), .int .i64 (d)]) 60 :: R) from (hM.up 1 rfl)) (by rw [hl]; rfl) ⟨rfl, hM⟩)
    · exact fun wx hM => gw rfl (g_ceq _ none true rfl rfl ⟨rfl, hM⟩)
    · exact fun wx hM => gw rfl (g_move _ (.bool true) rfl ⟨rfl, hM⟩)
    · exact fun wx hM => gw rfl (g_move _ (.pointer (some ⟨p, 0, none⟩)) rfl ⟨rfl, hM⟩)
    · exact fun wx hM => gw rfl (g_nil _ ⟨p, 0, none⟩ rfl ⟨rfl, hM⟩)
    · exact fun wx hM => gw rfl (g_fa 60 _ (p) (0) (2) 2 rfl (fa60_2 _ _ _) ⟨rfl, hM⟩)
    · exact fun wx hM => gw rfl (g_ld1 58 _ (p) 2 _ rfl (ld58 _ _ _ _ ((hM.get 0 rfl).cell 2 _ rfl)) ⟨rfl, hM⟩)
    · exact fun wx hM => gw rfl (g_mlen Try.underlying58 _ (((es.length : Nat) : Int)) rfl (show Ms w0 _ (mp kI m (es) :: blk (p) ([.int .i64 (((x : Nat) : Int)), .int .i64 (y), .map (some m), .int .i64 (d)]) 60 :: R) from (hM.up 1 rfl)) (rfl) ⟨rfl, hM⟩)
    · exact fun wx hM => gw rfl (g_move _ (.pointer (some ⟨p, 0, none⟩)) rfl ⟨rfl, hM⟩)
    · exact fun wx hM => gw rfl (g_nil _ ⟨p, 0, none⟩ rfl ⟨rfl, hM⟩)
    · exact fun wx hM => gw rfl (g_fa 60 _ (p) (0) (1) 1 rfl (fa60_1 _ _ _) ⟨rfl, hM⟩)
    · exact fun wx hM => gw rfl (g_ld1 3 _ (p) 1 _ rfl (ld3 _ _ _ _ ((hM.get 0 rfl).cell 1 _ rfl)) ⟨rfl, hM⟩)
    · exact fun wx hM => gw rfl (g_ilss 3 _ _ .i64 (((es.length : Nat) : Int)) (y) false rfl rfl (decide_eq_false hn) ⟨rfl, hM⟩)
    · exact fun wx hM => gw rfl (g_pickt _ _ _ (.bool false) rfl rfl ⟨rfl, hM⟩)
  · simp only [fullL, Act.put, List.setIfInBounds_toArray, List.set_cons_succ, List.set_cons_zero]
    intro w4 hM
    refine hK3 _ _ ?_
    (try clear hK3 K3)
    refine wp_cond_false rfl ?_
    refine wp_skip ?_
    refine hK2 _ _ ?_
    (try clear hK2 K2)
    refine wp_seq_k (fun K5 hK5 => ?_)
    refine wl_region ?_
    refine wl_give rfl (g_move _ (.pointer (some ⟨p, 0, none⟩)) rfl ?_)
    (try simp only [Act.put, List.setIfInBounds_toArray, List.set_cons_zero, List.set_cons_succ])
    refine wl_give rfl (g_nil _ ⟨p, 0, none⟩ rfl ?_)
    (try simp only [Act.put, List.setIfInBounds_toArray, List.set_cons_zero, List.set_cons_succ])
    refine wl_give rfl (g_fa 60 _ (p) (0) (2) 2 rfl (fa60_2 _ _ _) ?_)
    (try simp only [Act.put, List.setIfInBounds_toArray, List.set_cons_zero, List.set_cons_succ])
    refine wl_give rfl (g_ld1 58 _ (p) 2 _ rfl (ld58 _ _ _ _ ((hM.get 0 rfl).cell 2 _ rfl)) ?_)
    (try simp only [Act.put, List.setIfInBounds_toArray, List.set_cons_zero, List.set_cons_succ])
    refine wl_give rfl (g_move _ (.int .i64 (i)) rfl ?_)
    (try simp only [Act.put, List.setIfInBounds_toArray, List.set_cons_zero, List.set_cons_succ])
    refine wl_give rfl (g_look keyI Try.underlying58 Try.zeroValue61 _ _ (i) (.chan none) rfl rfl (show Ms w0 _ (mp kI m (es) :: blk (p) ([.int .i64 (((x : Nat) : Int)), .int .i64 (y), .map (some m), .int .i64 (d)]) 60 :: R) from (hM.up 1 rfl)) (by rw [hl]; rfl) ?_)
    (try simp only [Act.put, List.setIfInBounds_toArray, List.set_cons_zero, List.set_cons_succ])
    refine wl_give rfl (g_assign _ (.chan none) rfl ?_)
    (try simp only [Act.put, List.setIfInBounds_toArray, List.set_cons_zero, List.set_cons_succ])
    refine wl_nil ?_
    refine hK5 _ _ ?_
    (try clear hK5 K5)
    refine wp_ret ?_
    go_ret
    exact ⟨rfl, hM⟩
theorem mput_look {κ : Type} [DecidableEq κ] (es : List (κ × Value)) (k : κ) (v : Value) : mlook (mput es k v) k = some v := by
  unfold mlook mput
  split
  · rename_i h
    induction es with
    | nil => cases h
    | cons q es ih =>
      rw [List.map_cons, List.find?_cons]
      by_cases hq : q.1 = k
      · simp [hq]
      · have h1 : k ∈ es.map (·.1) := by
          rcases List.mem_cons.1 h with e | h1
          · exact absurd e.symm hq
          · exact h1
        have := ih h1
        simp [hq]
        simpa using this
  · rename_i h
    rw [List.find?_append, List.find?_eq_none.2 (fun q hq => by simpa using fun e => h (List.mem_map.2 ⟨q, hq, e⟩))]
    simp
theorem mlook_out {κ : Type} [DecidableEq κ] {es : List (κ × Value)} {k : κ} (h : mlook es k = none) : k ∉ es.map (·.1) := by
  intro hk
  obtain ⟨q, hq, rfl⟩ := List.mem_map.1 hk
  unfold mlook at h
  rw [Option.map_eq_none_iff, List.find?_eq_none] at h
  exact h q hq (by simp)
set_option maxHeartbeats 4000000 in
theorem line_new {w0 w : World} {R : List HP} {p m x : Nat} {y d i : Int} {es : List (Int × Value)} (hM : Ms w0 w (blk (p) ([.int .i64 (((x : Nat) : Int)), .int .i64 (y), .map (some m), .int .i64 (d)]) 60 :: mp kI m (es) :: R)) (hl : mlook es i = none) (hn : ((es.length : Nat) : Int) < y) (hx : x ≤ 1000) : Calls Try.prog 27 #[.pointer (some ⟨p, 0, none⟩), .int .i64 i] w fun e w' => ∃ c, e = .returned (.chan (some c)) ∧ Ms w0 w' (blk (p) ([.int .i64 (((x : Nat) : Int)), .int .i64 (y), .map (some m), .int .i64 (d)]) 60 :: mp kI m (es ++ [(i, .chan (some c))]) :: ch c x [] :: R) := by
  go_enter Try.func27, Try.ntmps27
  refine wp_seq_k (fun K1 hK1 => ?_)
  refine wl_region ?_
  refine wl_give rfl (g_assign _ (.chan none) rfl ?_)
  (try simp only [Act.put, List.setIfInBounds_toArray, List.set_cons_zero, List.set_cons_succ])
  refine wl_nil ?_
  refine hK1 _ _ ?_
  (try clear hK1 K1)
  refine wp_seq_k (fun K2 hK2 => ?_)
  refine wp_seq_k (fun K3 hK3 => ?_)
  refine wp_region_fixed (by kernel_rfl) (by kernel_rfl) [.pointer (some ⟨p, 0, none⟩), .pointer (some ⟨p, 0, none⟩), .pointer (some ⟨p, 2, none⟩), .map (some m), .int .i64 (i), .chan none, .bool true, .bool true, .pointer (some ⟨p, 0, none⟩), .pointer (some ⟨p, 0, none⟩), .pointer (some ⟨p, 2, none⟩), .map (some m), .int .i64 (((es.length : Nat) : Int)), .pointer (some ⟨p, 0, none⟩), .pointer (some ⟨p, 0, none⟩), .pointer (some ⟨p, 1, none⟩), .int .i64 (y), .bool true, .bool true] (by rfl) (fun wx => Ms w0 wx (blk (p) ([.int .i64 (((x : Nat) : Int)), .int .i64 (y), .map (some m), .int .i64 (d)]) 60 :: mp kI m (es) :: R)) hM.drew ?_ ?_
  · simp only [fullL, Act.put, List.setIfInBounds_toArray, List.set_cons_succ, List.set_cons_zero]
    refine ⟨?_, ?_, ?_, ?_, ?_, ?_, ?_, ?_, ?_, ?_, ?_, ?_, ?_, ?_, ?_, ?_, ?_, ?_, ?_, trivial⟩
    · exact fun wx hM => gw rfl (g_move _ (.pointer (some ⟨p, 0, none⟩)) rfl ⟨rfl, hM⟩)
    · exact fun wx hM => gw rfl (g_nil _ ⟨p, 0, none⟩ rfl ⟨rfl, hM⟩)
    · exact fun wx hM => gw rfl (g_fa 60 _ (p) (0) (2) 2 rfl (fa60_2 _ _ _) ⟨rfl, hM⟩)
    · exact fun wx hM => gw rfl (g_ld1 58 _ (p) 2 _ rfl (ld58 _ _ _ _ ((hM.get 0 rfl).cell 2 _ rfl)) ⟨rfl, hM⟩)
    · exact fun wx hM => gw rfl (g_move _ (.int .i64 (i)) rfl ⟨rfl, hM⟩)
    · exact fun wx hM => gw rfl (g_look keyI Try.underlying58 Try.zeroValue61 _ _ (i) (.chan none) rfl rfl (show Ms w0 _ (mp kI m (es) :: blk (p) ([.int .i64 (((x : Nat) : Int)), .int .i64 (y), .map (some m), .int .i64 (d)]) 60 :: R) from (hM.up 1 rfl)) (by rw [hl]; rfl) ⟨rfl, hM⟩)
    · exact fun wx hM => gw rfl (g_ceq _ none true rfl rfl ⟨rfl, hM⟩)
    · exact fun wx hM => gw rfl (g_move _ (.bool true) rfl ⟨rfl, hM⟩)
    · exact fun wx hM => gw rfl (g_move _ (.pointer (some ⟨p, 0, none⟩)) rfl ⟨rfl, hM⟩)
    · exact fun wx hM => gw rfl (g_nil _ ⟨p, 0, none⟩ rfl ⟨rfl, hM⟩)
    · exact fun wx hM => gw rfl (g_fa 60 _ (p) (0) (2) 2 rfl (fa60_2 _ _ _) ⟨rfl, hM⟩)
    · exact fun wx hM => gw rfl (g_ld1 58 _ (p) 2 _ rfl (ld58 _ _ _ _ ((hM.get 0 rfl).cell 2 _ rfl)) ⟨rfl, hM⟩)
    · exact fun wx hM => gw rfl (g_mlen Try.underlying58 _ (((es.length : Nat) : Int)) rfl (show Ms w0 _ (mp kI m (es) :: blk (p) ([.int .i64 (((x : Nat) : Int)), .int .i64 (y), .map (some m), .int .i64 (d)]) 60 :: R) from (hM.up 1 rfl)) (rfl) ⟨rfl, hM⟩)
    · exact fun wx hM => gw rfl (g_move _ (.pointer (some ⟨p, 0, none⟩)) rfl ⟨rfl, hM⟩)
    · exact fun wx hM => gw rfl (g_nil _ ⟨p, 0, none⟩ rfl ⟨rfl, hM⟩)
    · exact fun wx hM => gw rfl (g_fa 60 _ (p) (0) (1) 1 rfl (fa60_1 _ _ _) ⟨rfl, hM⟩)
    · exact fun wx hM => gw rfl (g_ld1 3 _ (p) 1 _ rfl (ld3 _ _ _ _ ((hM.get 0 rfl).cell 1 _ rfl)) ⟨rfl, hM⟩)
    · exact fun wx hM => gw rfl (g_ilss 3 _ _ .i64 (((es.length : Nat) : Int)) (y) true rfl rfl (decide_eq_true hn) ⟨rfl, hM⟩)
    · exact fun wx hM => gw rfl (g_pickt _ _ _ (.bool true) rfl rfl ⟨rfl, hM⟩)
  · simp only [fullL, Act.put, List.setIfInBounds_toArray, List.set_cons_succ, List.set_cons_zero]
    intro w4 hM
    refine hK3 _ _ ?_
    (try clear hK3 K3)
    refine wp_cond_true rfl ?_
    refine wp_region_steps (by kernel_rfl) (by kernel_rfl) [9, 10] [0, 0, 0, 0, 0, 0, 0, 0, 0, 0, 1] [1, 1, 1, 1, 1, 1, 1, 1, 0, 1, 2] (by kernel_rfl) (Pm := Nat) (fun π => [.pointer (some ⟨p, 0, none⟩), .pointer (some ⟨p, 0, none⟩), .pointer (some ⟨p, 2, none⟩), .map (some m), .int .i64 (i), .pointer (some ⟨p, 0, none⟩), .pointer (some ⟨p, 0, none⟩), .pointer (some ⟨p, 0, none⟩), .int .i64 (((x : Nat) : Int)), .chan (some (π)), undef]) (fun _ => by rfl) (fun j π wx => match j with | 0 => Ms w0 wx (blk (p) ([.int .i64 (((x : Nat) : Int)), .int .i64 (y), .map (some m), .int .i64 (d)]) 60 :: mp kI m (es) :: R) | 1 => Ms w0 wx (ch (π) (x) ([]) :: blk (p) ([.int .i64 (((x : Nat) : Int)), .int .i64 (y), .map (some m), .int .i64 (d)]) 60 :: mp kI m (es) :: R) | _ => Ms w0 wx (mp kI m (mput (es) (i) (.chan (some (π)))) :: ch (π) (x) ([]) :: blk (p) ([.int .i64 (((x : Nat) : Int)), .int .i64 (y), .map (some m), .int .i64 (d)]) 60 :: R)) (0) hM.drew ?_ ?_ ?_
    · intro j k o hj ho π wx hM
      rcases j with _ | _ | j
      · obtain rfl := Option.some.inj hj
        obtain rfl := Option.some.inj ho
        simp only [fullL, Act.put, List.setIfInBounds_toArray, List.set_cons_succ, List.set_cons_zero]
        replace hM : Ms w0 wx (blk (p) ([.int .i64 (((x : Nat) : Int)), .int .i64 (y), .map (some m), .int .i64 (d)]) 60 :: mp kI m (es) :: R) := hM
        exact gw rfl (g_mchan _ (x) rfl (hx) hM (fun  w' h_ => ⟨(wx.heap.size), rfl, fun i h1 h2 => by rcases i with _ | _ | _ | _ | _ | _ | _ | _ | _ | _ | _ | i <;> first | rfl | trivial | exact absurd rfl h2 | exact absurd h1 (by decide), h_⟩))
      · obtain rfl := Option.some.inj hj
        obtain rfl := Option.some.inj ho
        simp only [fullL, Act.put, List.setIfInBounds_toArray, List.set_cons_succ, List.set_cons_zero]
        replace hM : Ms w0 wx (ch (π) (x) ([]) :: blk (p) ([.int .i64 (((x : Nat) : Int)), .int .i64 (y), .map (some m), .int .i64 (d)]) 60 :: mp kI m (es) :: R) := hM
        exact gw rfl (g_mup keyI Try.underlying58 _ _ _ (i) (.chan (some (π))) rfl rfl rfl (show Ms w0 wx (mp kI m (es) :: ch (π) (x) ([]) :: blk (p) ([.int .i64 (((x : Nat) : Int)), .int .i64 (y), .map (some m), .int .i64 (d)]) 60 :: R) from (hM.up 2 rfl)) (fun  w' h_ => ⟨(π), rfl, fun i h1 h2 => by rcases i with _ | _ | _ | _ | _ | _ | _ | _ | _ | _ | _ | i <;> first | rfl | trivial | exact absurd rfl h2 | exact absurd h1 (by decide), h_⟩))
      · simp at hj
    · intro i o ho hi j hd hh hj π wx hM
      simp only [fullL, Act.put, List.setIfInBounds_toArray, List.set_cons_succ, List.set_cons_zero]
      rcases i with _ | _ | _ | _ | _ | _ | _ | _ | _ | _ | _ | i
      · obtain rfl := Option.some.inj ho
        exact gw rfl (g_move _ (.pointer (some ⟨p, 0, none⟩)) rfl ⟨rfl, hM⟩)
      · obtain rfl := Option.some.inj ho
        exact gw rfl (g_nil _ ⟨p, 0, none⟩ rfl ⟨rfl, hM⟩)
      · obtain rfl := Option.some.inj ho
        exact gw rfl (g_fa 60 _ (p) (0) (2) 2 rfl (fa60_2 _ _ _) ⟨rfl, hM⟩)
      · obtain rfl := Option.some.inj ho
        rcases j with _ | _ | _ | j
        · replace hM : Ms w0 wx (blk (p) ([.int .i64 (((x : Nat) : Int)), .int .i64 (y), .map (some m), .int .i64 (d)]) 60 :: mp kI m (es) :: R) := hM
          exact gw rfl (g_ld1 58 _ (p) 2 _ rfl (ld58 _ _ _ _ ((hM.get 0 rfl).cell 2 _ rfl)) ⟨rfl, hM⟩)
        · replace hM : Ms w0 wx (ch (π) (x) ([]) :: blk (p) ([.int .i64 (((x : Nat) : Int)), .int .i64 (y), .map (some m), .int .i64 (d)]) 60 :: mp kI m (es) :: R) := hM
          exact gw rfl (g_ld1 58 _ (p) 2 _ rfl (ld58 _ _ _ _ ((hM.get 1 rfl).cell 2 _ rfl)) ⟨rfl, hM⟩)
        · exact absurd hh (by decide)
        · exact absurd hj (by simp)
      · obtain rfl := Option.some.inj ho
        exact gw rfl (g_move _ (.int .i64 (i)) rfl ⟨rfl, hM⟩)
      · obtain rfl := Option.some.inj ho
        exact gw rfl (g_move _ (.pointer (some ⟨p, 0, none⟩)) rfl ⟨rfl, hM⟩)
      · obtain rfl := Option.some.inj ho
        exact gw rfl (g_nil _ ⟨p, 0, none⟩ rfl ⟨rfl, hM⟩)
      · obtain rfl := Option.some.inj ho
        exact gw rfl (g_fa 60 _ (p) (0) (0) 0 rfl (fa60_0 _ _ _) ⟨rfl, hM⟩)
      · obtain rfl := Option.some.inj ho
        rcases j with _ | _ | _ | j
        · replace hM : Ms w0 wx (blk (p) ([.int .i64 (((x : Nat) : Int)), .int .i64 (y), .map (some m), .int .i64 (d)]) 60 :: mp kI m (es) :: R) := hM
          exact gw rfl (g_ld1 3 _ (p) 0 _ rfl (ld3 _ _ _ _ ((hM.get 0 rfl).cell 0 _ rfl)) ⟨rfl, hM⟩)
        · exact absurd hh (by decide)
        · exact absurd hh (by decide)
        · exact absurd hj (by simp)
      · exact absurd (by decide) hi
      · exact absurd (by decide) hi
      · simp at ho
    · simp only [fullL, Act.put, List.setIfInBounds_toArray, List.set_cons_succ, List.set_cons_zero]
      rintro p6 w5 hM
      replace hM : Ms w0 w5 (mp kI m (mput (es) (i) (.chan (some (p6)))) :: ch (p6) (x) ([]) :: blk (p) ([.int .i64 (((x : Nat) : Int)), .int .i64 (y), .map (some m), .int .i64 (d)]) 60 :: R) := hM
      refine hK2 _ _ ?_
      (try clear hK2 K2)
      refine wp_seq_k (fun K7 hK7 => ?_)
      refine wl_region ?_
      refine wl_give rfl (g_move _ (.pointer (some ⟨p, 0, none⟩)) rfl ?_)
      (try simp only [Act.put, List.setIfInBounds_toArray, List.set_cons_zero, List.set_cons_succ])
      refine wl_give rfl (g_nil _ ⟨p, 0, none⟩ rfl ?_)
      (try simp only [Act.put, List.setIfInBounds_toArray, List.set_cons_zero, List.set_cons_succ])
      refine wl_give rfl (g_fa 60 _ (p) (0) (2) 2 rfl (fa60_2 _ _ _) ?_)
      (try simp only [Act.put, List.setIfInBounds_toArray, List.set_cons_zero, List.set_cons_succ])
      refine wl_give rfl (g_ld1 58 _ (p) 2 _ rfl (ld58 _ _ _ _ ((hM.get 2 rfl).cell 2 _ rfl)) ?_)
      (try simp only [Act.put, List.setIfInBounds_toArray, List.set_cons_zero, List.set_cons_succ])
      refine wl_give rfl (g_move _ (.int .i64 (i)) rfl ?_)
      (try simp only [Act.put, List.setIfInBounds_toArray, List.set_cons_zero, List.set_cons_succ])
      refine wl_give rfl (g_look keyI Try.underlying58 Try.zeroValue61 _ _ (i) (.chan (some (p6))) rfl rfl hM (by rw [mput_look]; rfl) ?_)
      (try simp only [Act.put, List.setIfInBounds_toArray, List.set_cons_zero, List.set_cons_succ])
      refine wl_give rfl (g_assign _ (.chan (some (p6))) rfl ?_)
      (try simp only [Act.put, List.setIfInBounds_toArray, List.set_cons_zero, List.set_cons_succ])
      refine wl_nil ?_
      refine hK7 _ _ ?_
      (try clear hK7 K7)
      refine wp_ret ?_
      go_ret
      refine ⟨(p6), rfl, ?_⟩
      rw [← mput_new (mlook_out hl)]
      exact (((hM.up 1 rfl).up 1 rfl).up 2 rfl)
end Go.Proofs.Ytpkjocibgmjhdaa
