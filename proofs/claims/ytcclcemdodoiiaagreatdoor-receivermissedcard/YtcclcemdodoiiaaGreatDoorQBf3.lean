/- What line and Put answer, where the interval's channel is known, or is none. -/
import Derived.Test.YtcclcemdodoiiaaGreatDoorQRunG
import Derived.Test.YtcclcemdodoiiaaGreatDoorQBf1
namespace Go.Proofs.YtcclcemdodoiiaaGreatDoor
set_option maxRecDepth 10000
open Go Go.RowKit
set_option linter.unusedVariables false
set_option linter.unusedSimpArgs false

set_option maxHeartbeats 4000000 in
theorem line_in {w0 w : World} {R : List HP} {p m x : Nat} {y d i : Int} {es : List (Int × Value)} {c : Nat} (hM : Ms w0 w (blk (p) ([.int .i64 (((x : Nat) : Int)), .int .i64 (y), .map (some m), .int .i64 (d)]) 130 :: mp kI m (es) :: R)) (hl : mlook es i = some (.chan (some c))) : Calls Tryz.prog 88 #[.pointer (some ⟨p, 0, none⟩), .int .i64 i] w fun e w' => e = .returned (.chan (some c)) ∧ Ms w0 w' (blk (p) ([.int .i64 (((x : Nat) : Int)), .int .i64 (y), .map (some m), .int .i64 (d)]) 130 :: mp kI m (es) :: R) := by
  go_enter Tryz.func88, Tryz.ntmps88
  refine wp_seq_k fun _ κ1 => wl_region (wl_fare kn ?_)
  simp (disch := omega) only [fx, pv, kx]
  refine wl_nil (κ1 _ _ ?_)
  refine wp_seq_k fun _ κ2 => wp_seq_k fun _ κ3 => ?_
  refine wp_region_fixed (by kernel_rfl) (by kernel_rfl) [.pointer (some ⟨p, 0, none⟩), .pointer (some ⟨p, 0, none⟩), .pointer (some ⟨p, 2, none⟩), .map (some m), .int .i64 (i), .chan (some c), .bool false, .bool false, undef, undef, undef, undef, undef, undef, undef, undef, undef, undef, .bool false] (by rfl) (fun wx => Ms w0 wx (blk (p) ([.int .i64 (((x : Nat) : Int)), .int .i64 (y), .map (some m), .int .i64 (d)]) 130 :: mp kI m (es) :: R)) hM.drew ?_ ?_
  · simp only [fullL, Act.put, st_a, st_s, st_0]
    refine ⟨?_, ?_, ?_, ?_, ?_, ?_, ?_, ?_, ?_, ?_, ?_, ?_, ?_, ?_, ?_, ?_, ?_, ?_, ?_, trivial⟩
    · exact mvL rfl rfl
    · exact ncL rfl rfl
    · exact faL rfl rfl (fun _ => fa130_2 _ _ _)
    · exact fun wx hM => gw rfl (g_ld1 128 _ (p) (2) _ rfl (ld128 _ _ _ _ ((hM.get 0 rfl).cell (2) _ (rfl))) ⟨rfl, hM⟩)
    · exact mvL rfl rfl
    · exact fun wx hM => gw rfl (g_look keyI Tryz.underlying128 Tryz.zeroValue140 _ _ (i) (.chan (some c)) rfl rfl (show Ms w0 _ (mp kI m (es) :: blk (p) ([.int .i64 (((x : Nat) : Int)), .int .i64 (y), .map (some m), .int .i64 (d)]) 130 :: R) from (hM.up 1 rfl)) (by rw [hl]; rfl) ⟨rfl, hM⟩)
    · exact fun wx hM => gw rfl (g_ceq _ (some c) false rfl rfl ⟨rfl, hM⟩)
    · exact mvL rfl rfl
    · exact skL rfl
    · exact skL rfl
    · exact skL rfl
    · exact skL rfl
    · exact skL rfl
    · exact skL rfl
    · exact skL rfl
    · exact skL rfl
    · exact skL rfl
    · exact skL rfl
    · exact pfL rfl rfl rfl
  · simp only [fullL, Act.put, st_a, st_s, st_0]
    intro w4 hM
    refine κ3 _ _ (wp_cond_false rfl ?_)
    refine wp_skip (κ2 _ _ ?_)
    refine wp_seq_k fun _ κ5 => wl_region (wl_fare kn ?_)
    simp (disch := omega) only [fx, pv, kx, (hM.get 0 rfl).cell 2 (.map (some m)) rfl]
    refine wl_give rfl (g_look keyI Tryz.underlying128 Tryz.zeroValue140 _ _ (i) (.chan (some c)) rfl rfl (show Ms w0 _ (mp kI m (es) :: blk (p) ([.int .i64 (((x : Nat) : Int)), .int .i64 (y), .map (some m), .int .i64 (d)]) 130 :: R) from (hM.up 1 rfl)) (by rw [hl]; rfl) ?_)
    refine wl_fare kn ?_
    simp (disch := omega) only [fx, pv, kx]
    refine wl_nil (κ5 _ _ ?_)
    refine wp_ret ?_
    go_ret
    exact ⟨rfl, hM⟩
set_option maxHeartbeats 4000000 in
theorem line_none {w0 w : World} {R : List HP} {p m x : Nat} {y d i : Int} {es : List (Int × Value)} (hM : Ms w0 w (blk (p) ([.int .i64 (((x : Nat) : Int)), .int .i64 (y), .map (some m), .int .i64 (d)]) 130 :: mp kI m (es) :: R)) (hl : mlook es i = none) (hn : ¬ ((es.length : Nat) : Int) < y) : Calls Tryz.prog 88 #[.pointer (some ⟨p, 0, none⟩), .int .i64 i] w fun e w' => e = .returned (.chan none) ∧ Ms w0 w' (blk (p) ([.int .i64 (((x : Nat) : Int)), .int .i64 (y), .map (some m), .int .i64 (d)]) 130 :: mp kI m (es) :: R) := by
  go_enter Tryz.func88, Tryz.ntmps88
  refine wp_seq_k fun _ κ1 => wl_region (wl_fare kn ?_)
  simp (disch := omega) only [fx, pv, kx]
  refine wl_nil (κ1 _ _ ?_)
  refine wp_seq_k fun _ κ2 => wp_seq_k fun _ κ3 => ?_
  refine wp_region_fixed (by kernel_rfl) (by kernel_rfl) [.pointer (some ⟨p, 0, none⟩), .pointer (some ⟨p, 0, none⟩), .pointer (some ⟨p, 2, none⟩), .map (some m), .int .i64 (i), .chan none, .bool true, .bool true, .pointer (some ⟨p, 0, none⟩), .pointer (some ⟨p, 0, none⟩), .pointer (some ⟨p, 2, none⟩), .map (some m), .int .i64 (((es.length : Nat) : Int)), .pointer (some ⟨p, 0, none⟩), .pointer (some ⟨p, 0, none⟩), .pointer (some ⟨p, 1, none⟩), .int .i64 (y), .bool false, .bool false] (by rfl) (fun wx => Ms w0 wx (blk (p) ([.int .i64 (((x : Nat) : Int)), .int .i64 (y), .map (some m), .int .i64 (d)]) 130 :: mp kI m (es) :: R)) hM.drew ?_ ?_
  · simp only [fullL, Act.put, st_a, st_s, st_0]
    refine ⟨?_, ?_, ?_, ?_, ?_, ?_, ?_, ?_, ?_, ?_, ?_, ?_, ?_, ?_, ?_, ?_, ?_, ?_, ?_, trivial⟩
    · exact mvL rfl rfl
    · exact ncL rfl rfl
    · exact faL rfl rfl (fun _ => fa130_2 _ _ _)
    · exact fun wx hM => gw rfl (g_ld1 128 _ (p) (2) _ rfl (ld128 _ _ _ _ ((hM.get 0 rfl).cell (2) _ (rfl))) ⟨rfl, hM⟩)
    · exact mvL rfl rfl
    · exact fun wx hM => gw rfl (g_look keyI Tryz.underlying128 Tryz.zeroValue140 _ _ (i) (.chan none) rfl rfl (show Ms w0 _ (mp kI m (es) :: blk (p) ([.int .i64 (((x : Nat) : Int)), .int .i64 (y), .map (some m), .int .i64 (d)]) 130 :: R) from (hM.up 1 rfl)) (by rw [hl]; rfl) ⟨rfl, hM⟩)
    · exact fun wx hM => gw rfl (g_ceq _ none true rfl rfl ⟨rfl, hM⟩)
    · exact mvL rfl rfl
    · exact mvL rfl rfl
    · exact ncL rfl rfl
    · exact faL rfl rfl (fun _ => fa130_2 _ _ _)
    · exact fun wx hM => gw rfl (g_ld1 128 _ (p) (2) _ rfl (ld128 _ _ _ _ ((hM.get 0 rfl).cell (2) _ (rfl))) ⟨rfl, hM⟩)
    · exact fun wx hM => gw rfl (g_mlen Tryz.underlying128 _ (((es.length : Nat) : Int)) rfl (show Ms w0 _ (mp kI m (es) :: blk (p) ([.int .i64 (((x : Nat) : Int)), .int .i64 (y), .map (some m), .int .i64 (d)]) 130 :: R) from (hM.up 1 rfl)) (rfl) ⟨rfl, hM⟩)
    · exact mvL rfl rfl
    · exact ncL rfl rfl
    · exact faL rfl rfl (fun _ => fa130_1 _ _ _)
    · exact fun wx hM => gw rfl (g_ld1 3 _ (p) (1) _ rfl (ld3 _ _ _ _ ((hM.get 0 rfl).cell (1) _ (rfl))) ⟨rfl, hM⟩)
    · exact fun wx hM => gw rfl (g_ilss 3 _ _ .i64 (((es.length : Nat) : Int)) (y) false rfl rfl (decide_eq_false hn) ⟨rfl, hM⟩)
    · exact ptL rfl rfl rfl
  · simp only [fullL, Act.put, st_a, st_s, st_0]
    intro w4 hM
    refine κ3 _ _ (wp_cond_false rfl ?_)
    refine wp_skip (κ2 _ _ ?_)
    refine wp_seq_k fun _ κ5 => wl_region (wl_fare kn ?_)
    simp (disch := omega) only [fx, pv, kx, (hM.get 0 rfl).cell 2 (.map (some m)) rfl]
    refine wl_give rfl (g_look keyI Tryz.underlying128 Tryz.zeroValue140 _ _ (i) (.chan none) rfl rfl (show Ms w0 _ (mp kI m (es) :: blk (p) ([.int .i64 (((x : Nat) : Int)), .int .i64 (y), .map (some m), .int .i64 (d)]) 130 :: R) from (hM.up 1 rfl)) (by rw [hl]; rfl) ?_)
    refine wl_fare kn ?_
    simp (disch := omega) only [fx, pv, kx]
    refine wl_nil (κ5 _ _ ?_)
    refine wp_ret ?_
    go_ret
    exact ⟨rfl, hM⟩
theorem mput_look {κ : Type} [DecidableEq κ] (es : List (κ × Value)) (k : κ) (v : Value) : mlook (mput es k v) k = some v := by
  unfold mlook mput
  split
  · rename_i h
    induction es with
    | nil => cases h
    | cons q es ih =>
      rw [List.map_cons, List.find?_cons]
      by_cases hq : q.1 = k
      · simp [hq]
      · have h1 : k ∈ es.map (·.1) := by
          rcases List.mem_cons.1 h with e | h1
          · exact absurd e.symm hq
          · exact h1
        have := ih h1
        simp [hq]
        simpa using this
  · rename_i h
    rw [List.find?_append, List.find?_eq_none.2 (fun q hq => by simpa using fun e => h (List.mem_map.2 ⟨q, hq, e⟩))]
    simp
theorem mlook_out {κ : Type} [DecidableEq κ] {es : List (κ × Value)} {k : κ} (h : mlook es k = none) : k ∉ es.map (·.1) := by
  intro hk
  obtain ⟨q, hq, rfl⟩ := List.mem_map.1 hk
  unfold mlook at h
  rw [Option.map_eq_none_iff, List.find?_eq_none] at h
  exact h q hq (by simp)
set_option maxHeartbeats 4000000 in
theorem line_new {w0 w : World} {R : List HP} {p m x : Nat} {y d i : Int} {es : List (Int × Value)} (hM : Ms w0 w (blk (p) ([.int .i64 (((x : Nat) : Int)), .int .i64 (y), .map (some m), .int .i64 (d)]) 130 :: mp kI m (es) :: R)) (hl : mlook es i = none) (hn : ((es.length : Nat) : Int) < y) (hx : x ≤ 1000) : Calls Tryz.prog 88 #[.pointer (some ⟨p, 0, none⟩), .int .i64 i] w fun e w' => ∃ c, e = .returned (.chan (some c)) ∧ Ms w0 w' (blk (p) ([.int .i64 (((x : Nat) : Int)), .int .i64 (y), .map (some m), .int .i64 (d)]) 130 :: mp kI m (es ++ [(i, .chan (some c))]) :: ch c x [] :: R) := by
  go_enter Tryz.func88, Tryz.ntmps88
  refine wp_seq_k fun _ κ1 => wl_region (wl_fare kn ?_)
  simp (disch := omega) only [fx, pv, kx]
  refine wl_nil (κ1 _ _ ?_)
  refine wp_seq_k fun _ κ2 => wp_seq_k fun _ κ3 => ?_
  refine wp_region_fixed (by kernel_rfl) (by kernel_rfl) [.pointer (some ⟨p, 0, none⟩), .pointer (some ⟨p, 0, none⟩), .pointer (some ⟨p, 2, none⟩), .map (some m), .int .i64 (i), .chan none, .bool true, .bool true, .pointer (some ⟨p, 0, none⟩), .pointer (some ⟨p, 0, none⟩), .pointer (some ⟨p, 2, none⟩), .map (some m), .int .i64 (((es.length : Nat) : Int)), .pointer (some ⟨p, 0, none⟩), .pointer (some ⟨p, 0, none⟩), .pointer (some ⟨p, 1, none⟩), .int .i64 (y), .bool true, .bool true] (by rfl) (fun wx => Ms w0 wx (blk (p) ([.int .i64 (((x : Nat) : Int)), .int .i64 (y), .map (some m), .int .i64 (d)]) 130 :: mp kI m (es) :: R)) hM.drew ?_ ?_
  · simp only [fullL, Act.put, st_a, st_s, st_0]
    refine ⟨?_, ?_, ?_, ?_, ?_, ?_, ?_, ?_, ?_, ?_, ?_, ?_, ?_, ?_, ?_, ?_, ?_, ?_, ?_, trivial⟩
    · exact mvL rfl rfl
    · exact ncL rfl rfl
    · exact faL rfl rfl (fun _ => fa130_2 _ _ _)
    · exact fun wx hM => gw rfl (g_ld1 128 _ (p) (2) _ rfl (ld128 _ _ _ _ ((hM.get 0 rfl).cell (2) _ (rfl))) ⟨rfl, hM⟩)
    · exact mvL rfl rfl
    · exact fun wx hM => gw rfl (g_look keyI Tryz.underlying128 Tryz.zeroValue140 _ _ (i) (.chan none) rfl rfl (show Ms w0 _ (mp kI m (es) :: blk (p) ([.int .i64 (((x : Nat) : Int)), .int .i64 (y), .map (some m), .int .i64 (d)]) 130 :: R) from (hM.up 1 rfl)) (by rw [hl]; rfl) ⟨rfl, hM⟩)
    · exact fun wx hM => gw rfl (g_ceq _ none true rfl rfl ⟨rfl, hM⟩)
    · exact mvL rfl rfl
    · exact mvL rfl rfl
    · exact ncL rfl rfl
    · exact faL rfl rfl (fun _ => fa130_2 _ _ _)
    · exact fun wx hM => gw rfl (g_ld1 128 _ (p) (2) _ rfl (ld128 _ _ _ _ ((hM.get 0 rfl).cell (2) _ (rfl))) ⟨rfl, hM⟩)
    · exact fun wx hM => gw rfl (g_mlen Tryz.underlying128 _ (((es.length : Nat) : Int)) rfl (show Ms w0 _ (mp kI m (es) :: blk (p) ([.int .i64 (((x : Nat) : Int)), .int .i64 (y), .map (some m), .int .i64 (d)]) 130 :: R) from (hM.up 1 rfl)) (rfl) ⟨rfl, hM⟩)
    · exact mvL rfl rfl
    · exact ncL rfl rfl
    · exact faL rfl rfl (fun _ => fa130_1 _ _ _)
    · exact fun wx hM => gw rfl (g_ld1 3 _ (p) (1) _ rfl (ld3 _ _ _ _ ((hM.get 0 rfl).cell (1) _ (rfl))) ⟨rfl, hM⟩)
    · exact fun wx hM => gw rfl (g_ilss 3 _ _ .i64 (((es.length : Nat) : Int)) (y) true rfl rfl (decide_eq_true hn) ⟨rfl, hM⟩)
    · exact ptL rfl rfl rfl
  · simp only [fullL, Act.put, st_a, st_s, st_0]
    intro w4 hM
    refine κ3 _ _ (wp_cond_true rfl ?_)
    refine wp_region_steps (by kernel_rfl) (by kernel_rfl) [9, 10] [0, 0, 0, 0, 0, 0, 0, 0, 0, 0, 1] [1, 1, 1, 1, 1, 1, 1, 1, 0, 1, 2] (by kernel_rfl) (Pm := Nat) (fun π => [.pointer (some ⟨p, 0, none⟩), .pointer (some ⟨p, 0, none⟩), .pointer (some ⟨p, 2, none⟩), .map (some m), .int .i64 (i), .pointer (some ⟨p, 0, none⟩), .pointer (some ⟨p, 0, none⟩), .pointer (some ⟨p, 0, none⟩), .int .i64 (((x : Nat) : Int)), .chan (some (π)), undef]) (fun _ => by rfl) (fun j_ π wx => match j_ with | 0 => Ms w0 wx (blk (p) ([.int .i64 (((x : Nat) : Int)), .int .i64 (y), .map (some m), .int .i64 (d)]) 130 :: mp kI m (es) :: R) | 1 => Ms w0 wx (ch (π) (x) ([]) :: blk (p) ([.int .i64 (((x : Nat) : Int)), .int .i64 (y), .map (some m), .int .i64 (d)]) 130 :: mp kI m (es) :: R) | _ => Ms w0 wx (mp kI m (mput (es) (i) (.chan (some (π)))) :: ch (π) (x) ([]) :: blk (p) ([.int .i64 (((x : Nat) : Int)), .int .i64 (y), .map (some m), .int .i64 (d)]) 130 :: R)) (0) hM.drew ?_ ?_ ?_
    · intro j_ k_ o_ hj_ ho_ π wx hM
      rcases j_ with _ | _ | j_
      · obtain rfl := Option.some.inj hj_
        cases so ho_
        simp only [fullL, Act.put, st_a, st_s, st_0]
        change Ms _ _ _ at hM
        exact gw rfl (g_mchan _ (x) rfl (hx) hM (fun  w' h_ => ⟨(wx.heap.size), rfl, fun i h1 h2 => by rcases i with _ | _ | _ | _ | _ | _ | _ | _ | _ | _ | _ | i <;> first | rfl | trivial | exact absurd rfl h2 | exact absurd h1 (by decide), h_⟩))
      · obtain rfl := Option.some.inj hj_
        cases so ho_
        simp only [fullL, Act.put, st_a, st_s, st_0]
        change Ms _ _ _ at hM
        exact gw rfl (g_mup keyI Tryz.underlying128 _ _ _ (i) (.chan (some (π))) rfl rfl rfl (show Ms w0 wx (mp kI m (es) :: ch (π) (x) ([]) :: blk (p) ([.int .i64 (((x : Nat) : Int)), .int .i64 (y), .map (some m), .int .i64 (d)]) 130 :: R) from (hM.up 2 rfl)) (fun  w' h_ => ⟨(π), rfl, fun i h1 h2 => by rcases i with _ | _ | _ | _ | _ | _ | _ | _ | _ | _ | _ | i <;> first | rfl | trivial | exact absurd rfl h2 | exact absurd h1 (by decide), h_⟩))
      · simp at hj_
    · intro i_ o_ ho_ hi_ j_ hd_ hh_ hj_ π wx hM
      simp only [fullL, Act.put, st_a, st_s, st_0]
      rcases i_ with _ | _ | _ | _ | _ | _ | _ | _ | _ | _ | _ | i_
      · cases so ho_
        exact gw rfl (g_move _ _ rfl ⟨rfl, hM⟩)
      · cases so ho_
        exact gw rfl (g_nil _ _ rfl ⟨rfl, hM⟩)
      · cases so ho_
        exact gw rfl (g_fa _ _ _ _ _ _ rfl (fa130_2 _ _ _) ⟨rfl, hM⟩)
      · cases so ho_
        rcases j_ with _ | _ | _ | j_
        · change Ms _ _ _ at hM
          exact gw rfl (g_ld1 128 _ (p) (2) _ rfl (ld128 _ _ _ _ ((hM.get 0 rfl).cell (2) _ (rfl))) ⟨rfl, hM⟩)
        · change Ms _ _ _ at hM
          exact gw rfl (g_ld1 128 _ (p) (2) _ rfl (ld128 _ _ _ _ ((hM.get 1 rfl).cell (2) _ (rfl))) ⟨rfl, hM⟩)
        · exact absurd hh_ (by decide)
        · exact absurd hj_ (by simp)
      · cases so ho_
        exact gw rfl (g_move _ _ rfl ⟨rfl, hM⟩)
      · cases so ho_
        exact gw rfl (g_move _ _ rfl ⟨rfl, hM⟩)
      · cases so ho_
        exact gw rfl (g_nil _ _ rfl ⟨rfl, hM⟩)
      · cases so ho_
        exact gw rfl (g_fa _ _ _ _ _ _ rfl (fa130_0 _ _ _) ⟨rfl, hM⟩)
      · cases so ho_
        rcases j_ with _ | _ | _ | j_
        · change Ms _ _ _ at hM
          exact gw rfl (g_ld1 3 _ (p) (0) _ rfl (ld3 _ _ _ _ ((hM.get 0 rfl).cell (0) _ (rfl))) ⟨rfl, hM⟩)
        · exact absurd hh_ (by decide)
        · exact absurd hh_ (by decide)
        · exact absurd hj_ (by simp)
      · exact absurd (by decide) hi_
      · exact absurd (by decide) hi_
      · simp at ho_
    · simp only [fullL, Act.put, st_a, st_s, st_0]
      rintro p6 w5 hM
      replace hM : Ms w0 w5 (mp kI m (mput (es) (i) (.chan (some (p6)))) :: ch (p6) (x) ([]) :: blk (p) ([.int .i64 (((x : Nat) : Int)), .int .i64 (y), .map (some m), .int .i64 (d)]) 130 :: R) := hM
      refine κ2 _ _ (wp_seq_k fun _ κ7 => ?_)
      refine wl_region (wl_fare kn ?_)
      simp (disch := omega) only [fx, pv, kx, (hM.get 2 rfl).cell 2 (.map (some m)) rfl]
      refine wl_give rfl (g_look keyI Tryz.underlying128 Tryz.zeroValue140 _ _ (i) (.chan (some (p6))) rfl rfl hM (by rw [mput_look]; rfl) ?_)
      refine wl_fare kn ?_
      simp (disch := omega) only [fx, pv, kx]
      refine wl_nil (κ7 _ _ ?_)
      refine wp_ret ?_
      go_ret
      refine ⟨(p6), rfl, ?_⟩
      rw [← mput_new (mlook_out hl)]
      exact (((hM.up 1 rfl).up 1 rfl).up 2 rfl)
end Go.Proofs.YtcclcemdodoiiaaGreatDoor
