/- What (*Receiver).formed, wait, At, Waits, Counts and Believed answer, over its parts. -/
import Derived.Test.YtcclcemdodoiiaaGreatDoorQRunG
import Derived.Test.YtcclcemdodoiiaaGreatDoorQBel
import Derived.Test.YtcclcemdodoiiaaGreatDoorQPl1
import Derived.Test.YtcclcemdodoiiaaGreatDoorQSd1
import Derived.Test.YtcclcemdodoiiaaGreatDoorQCh
import Derived.WalkKit
import Derived.WalkSpells
import Derived.WalkLawsBesides
namespace Go.Proofs.YtcclcemdodoiiaaGreatDoor
set_option maxRecDepth 10000
open Go Go.RowKit
set_option linter.unusedVariables false
set_option linter.unusedSimpArgs false

section
variable {P : Program} {a : Act} {w : World} {dst : Option Tmp} {ty : TypeId} {pos : String} {aft : Array Edge} {gd : Option (Nat × Bool)} {K : Value → World → Prop}
theorem g_hd (x : Operand) (c : ByteArray) (hx : a.eval x = .string c) (h : 16 ≤ c.size) (hk : K (.string (hd16 c)) w) : gives Tryz.prog ⟨dst, .slice 9 x none (some (.const (.int .i64 16))) none, ty, pos, aft, gd⟩ a w K :=
  g_val _ w (by
    have e : a.eval (.const (.int .i64 16)) = .int .i64 16 := rfl
    have hr := run_slice_string_h w 9 c Tryz.underlying9 .i64 16 (by decide) (by omega)
    simp only [execOp, hx, Option.map_some, Option.map_none, e, Sem.run_bind, run_sliceAt_string w 9 _ _ _ _ Tryz.underlying9, hr, Result.andThen_ok, Sem.run_pure]
    rfl) hk
theorem g_tlx (x : Operand) (c : ByteArray) (hx : a.eval x = .string c) (h : 16 ≤ c.size) (hk : K (.string (tl16 c)) w) : gives Tryz.prog ⟨dst, .slice 9 x (some (.const (.int .i64 16))) none none, ty, pos, aft, gd⟩ a w K :=
  g_val _ w (by
    have e : a.eval (.const (.int .i64 16)) = .int .i64 16 := rfl
    have hr := run_slice_string_l w 9 c Tryz.underlying9 .i64 16 (by decide) (by omega)
    simp only [execOp, hx, Option.map_some, Option.map_none, e, Sem.run_bind, run_sliceAt_string w 9 _ _ _ _ Tryz.underlying9, hr, Result.andThen_ok, Sem.run_pure]
    rfl) hk
end
set_option maxHeartbeats 4000000 in
theorem formed_any {w0 w : World} {R : List HP} {p q m : Nat} {P : Pl} {k : Ky} {n mo wr : Int} (i : Int) (tx g : ByteArray) (t : Int) (kk : Ky) (hM : Ms w0 w (blk (p) (rcc (P) (k) (n) (mo) (.pointer (some ⟨q, 0, none⟩)) (.map (some m)) (wr)) 95 :: R)) (X : Bool) (hX : Shut (decide (Fmd P ⟨i, tx, g, t, kk⟩) = X)) : Calls Tryz.prog 36 #[.pointer (some ⟨p, 0, none⟩), .agg (pkc i tx g t kk).toArray] w fun e w' => e = .returned (.bool X) ∧ Ms w0 w' (blk (p) (rcc (P) (k) (n) (mo) (.pointer (some ⟨q, 0, none⟩)) (.map (some m)) (wr)) 95 :: R) := by
  obtain ⟨T, hT⟩ : ∃ T, pte P i = T := ⟨_, rfl⟩
  go_enter Tryz.func36, Tryz.ntmps36
  refine wp_seq_k fun _ κ1 => wl_region (wl_give rfl (g_box 39 _ (pkc (i) (tx) (g) (t) (kk)) rfl ?_))
  intro w2 t_ b_
  replace hM := hM.new t_ b_
  clear t_ b_
  refine wl_fare kn ?_
  simp (disch := omega) only [fx, pv, kx]
  refine wl_nil (κ1 _ _ ?_)
  refine wp_seq_k fun _ κ3 => wp_seq_k fun _ κ4 => ?_
  by_cases h1 : i < 1
  · obtain rfl : false = X := by rw [← hX.out]; exact (decide_eq_false (fun h0 : Fmd P ⟨i, tx, g, t, kk⟩ => by have h : (1 ≤ i ∧ i ≤ P.ct) ∧ g.size = 16 ∧ tx.size ≤ 1000 ∧ t = pte P i ∧ (0 < t ∨ kk.l = zk.l) := h0; exact absurd h.1.1 (by omega))).symm
    refine wp_region_fixed (by kernel_rfl) (by kernel_rfl) [.pointer (some ⟨w.heap.size, 0, none⟩), .int .i64 (i), .bool true, .bool true, undef, undef, undef, undef, undef, undef, undef, undef, .bool true, .bool true, undef, undef, undef, undef, .bool true, .bool true, undef, undef, undef, undef, .bool true] (by rfl) (fun wx => Ms w0 wx (blk (w.heap.size) (pkc (i) (tx) (g) (t) (kk)) 39 :: blk (p) (rcc (P) (k) (n) (mo) (.pointer (some ⟨q, 0, none⟩)) (.map (some m)) (wr)) 95 :: R)) hM.drew ?_ ?_
    · simp only [fullL, Act.put, st_a, st_s, st_0]
      refine ⟨?_, ?_, ?_, ?_, ?_, ?_, ?_, ?_, ?_, ?_, ?_, ?_, ?_, ?_, ?_, ?_, ?_, ?_, ?_, ?_, ?_, ?_, ?_, ?_, ?_, trivial⟩
      · exact faL rfl rfl (fun _ => faPk0 _ _ _)
      · exact fun wx hM => gw rfl (g_ld1 3 _ (w.heap.size) (0) _ rfl (ld3 _ _ _ _ ((hM.get 0 rfl).cell (0) _ (rfl))) ⟨rfl, hM⟩)
      · exact fun wx hM => gw rfl (g_ilss 3 _ _ .i64 (i) (1) true rfl rfl (decide_eq_true h1) ⟨rfl, hM⟩)
      · exact mvL rfl rfl
      · exact skL rfl
      · exact skL rfl
      · exact skL rfl
      · exact skL rfl
      · exact skL rfl
      · exact skL rfl
      · exact skL rfl
      · exact skL rfl
      · exact ptL rfl rfl rfl
      · exact mvL rfl rfl
      · exact skL rfl
      · exact skL rfl
      · exact skL rfl
      · exact skL rfl
      · exact ptL rfl rfl rfl
      · exact mvL rfl rfl
      · exact skL rfl
      · exact skL rfl
      · exact skL rfl
      · exact skL rfl
      · exact ptL rfl rfl rfl
    · simp only [fullL, Act.put, st_a, st_s, st_0]
      intro w5 hM
      refine κ4 _ _ (wp_cond_true rfl ?_)
      refine wp_seq_k fun _ κ6 => wl_region (wl_fare kn ?_)
      simp (disch := omega) only [fx, pv, kx]
      refine wl_nil (κ6 _ _ ?_)
      refine wp_ret ?_
      go_ret
      exact ⟨rfl, ((hM.erase 0).up 0 rfl)⟩
  · skip
    by_cases h2 : P.ct < i
    · obtain rfl : false = X := by rw [← hX.out]; exact (decide_eq_false (fun h0 : Fmd P ⟨i, tx, g, t, kk⟩ => by have h : (1 ≤ i ∧ i ≤ P.ct) ∧ g.size = 16 ∧ tx.size ≤ 1000 ∧ t = pte P i ∧ (0 < t ∨ kk.l = zk.l) := h0; exact absurd h.1.2 (by omega))).symm
      refine wp_region_fixed (by kernel_rfl) (by kernel_rfl) [.pointer (some ⟨w.heap.size, 0, none⟩), .int .i64 (i), .bool false, .bool false, .pointer (some ⟨w.heap.size, 0, none⟩), .int .i64 (i), .pointer (some ⟨p, 0, none⟩), .pointer (some ⟨p, 0, none⟩), .pointer (some ⟨p, 0, none⟩), .pointer (some ⟨p, 3, none⟩), .int .i64 ((P).ct), .bool true, .bool true, .bool true, undef, undef, undef, undef, .bool true, .bool true, undef, undef, undef, undef, .bool true] (by rfl) (fun wx => Ms w0 wx (blk (w.heap.size) (pkc (i) (tx) (g) (t) (kk)) 39 :: blk (p) (rcc (P) (k) (n) (mo) (.pointer (some ⟨q, 0, none⟩)) (.map (some m)) (wr)) 95 :: R)) hM.drew ?_ ?_
      · simp only [fullL, Act.put, st_a, st_s, st_0]
        refine ⟨?_, ?_, ?_, ?_, ?_, ?_, ?_, ?_, ?_, ?_, ?_, ?_, ?_, ?_, ?_, ?_, ?_, ?_, ?_, ?_, ?_, ?_, ?_, ?_, ?_, trivial⟩
        · exact faL rfl rfl (fun _ => faPk0 _ _ _)
        · exact fun wx hM => gw rfl (g_ld1 3 _ (w.heap.size) (0) _ rfl (ld3 _ _ _ _ ((hM.get 0 rfl).cell (0) _ (rfl))) ⟨rfl, hM⟩)
        · exact fun wx hM => gw rfl (g_ilss 3 _ _ .i64 (i) (1) false rfl rfl (decide_eq_false h1) ⟨rfl, hM⟩)
        · exact mvL rfl rfl
        · exact faL rfl rfl (fun _ => faPk0 _ _ _)
        · exact fun wx hM => gw rfl (g_ld1 3 _ (w.heap.size) (0) _ rfl (ld3 _ _ _ _ ((hM.get 0 rfl).cell (0) _ (rfl))) ⟨rfl, hM⟩)
        · exact mvL rfl rfl
        · exact ncL rfl rfl
        · exact faL rfl rfl (fun _ => faRc0 _ _ _)
        · exact faL rfl rfl (fun _ => faPl3 _ _ _)
        · exact fun wx hM => gw rfl (g_ld1 3 _ (p) (3) _ rfl (ld3 _ _ _ _ ((hM.get 1 rfl).cell (3) _ (rv_3 _ _ _ _ _ _ _))) ⟨rfl, hM⟩)
        · exact fun wx hM => gw rfl (g_igtr 3 _ _ .i64 (i) ((P).ct) true rfl rfl (decide_eq_true h2) ⟨rfl, hM⟩)
        · exact pfL rfl rfl rfl
        · exact mvL rfl rfl
        · exact skL rfl
        · exact skL rfl
        · exact skL rfl
        · exact skL rfl
        · exact ptL rfl rfl rfl
        · exact mvL rfl rfl
        · exact skL rfl
        · exact skL rfl
        · exact skL rfl
        · exact skL rfl
        · exact ptL rfl rfl rfl
      · simp only [fullL, Act.put, st_a, st_s, st_0]
        intro w7 hM
        refine κ4 _ _ (wp_cond_true rfl ?_)
        refine wp_seq_k fun _ κ8 => wl_region (wl_fare kn ?_)
        simp (disch := omega) only [fx, pv, kx]
        refine wl_nil (κ8 _ _ ?_)
        refine wp_ret ?_
        go_ret
        exact ⟨rfl, ((hM.erase 0).up 0 rfl)⟩
    · skip
      by_cases h3 : (((g).size : Nat) : Int) ≠ 16
      · obtain rfl : false = X := by rw [← hX.out]; exact (decide_eq_false (fun h0 : Fmd P ⟨i, tx, g, t, kk⟩ => by have h : (1 ≤ i ∧ i ≤ P.ct) ∧ g.size = 16 ∧ tx.size ≤ 1000 ∧ t = pte P i ∧ (0 < t ∨ kk.l = zk.l) := h0; exact h3 (by rw [h.2.1]; rfl))).symm
        refine wp_region_fixed (by kernel_rfl) (by kernel_rfl) [.pointer (some ⟨w.heap.size, 0, none⟩), .int .i64 (i), .bool false, .bool false, .pointer (some ⟨w.heap.size, 0, none⟩), .int .i64 (i), .pointer (some ⟨p, 0, none⟩), .pointer (some ⟨p, 0, none⟩), .pointer (some ⟨p, 0, none⟩), .pointer (some ⟨p, 3, none⟩), .int .i64 ((P).ct), .bool false, .bool false, .bool false, .pointer (some ⟨w.heap.size, 2, none⟩), .string (g), .int .i64 ((((g).size : Nat) : Int)), .bool true, .bool true, .bool true, undef, undef, undef, undef, .bool true] (by rfl) (fun wx => Ms w0 wx (blk (w.heap.size) (pkc (i) (tx) (g) (t) (kk)) 39 :: blk (p) (rcc (P) (k) (n) (mo) (.pointer (some ⟨q, 0, none⟩)) (.map (some m)) (wr)) 95 :: R)) hM.drew ?_ ?_
        · simp only [fullL, Act.put, st_a, st_s, st_0]
          refine ⟨?_, ?_, ?_, ?_, ?_, ?_, ?_, ?_, ?_, ?_, ?_, ?_, ?_, ?_, ?_, ?_, ?_, ?_, ?_, ?_, ?_, ?_, ?_, ?_, ?_, trivial⟩
          · exact faL rfl rfl (fun _ => faPk0 _ _ _)
          · exact fun wx hM => gw rfl (g_ld1 3 _ (w.heap.size) (0) _ rfl (ld3 _ _ _ _ ((hM.get 0 rfl).cell (0) _ (rfl))) ⟨rfl, hM⟩)
          · exact fun wx hM => gw rfl (g_ilss 3 _ _ .i64 (i) (1) false rfl rfl (decide_eq_false h1) ⟨rfl, hM⟩)
          · exact mvL rfl rfl
          · exact faL rfl rfl (fun _ => faPk0 _ _ _)
          · exact fun wx hM => gw rfl (g_ld1 3 _ (w.heap.size) (0) _ rfl (ld3 _ _ _ _ ((hM.get 0 rfl).cell (0) _ (rfl))) ⟨rfl, hM⟩)
          · exact mvL rfl rfl
          · exact ncL rfl rfl
          · exact faL rfl rfl (fun _ => faRc0 _ _ _)
          · exact faL rfl rfl (fun _ => faPl3 _ _ _)
          · exact fun wx hM => gw rfl (g_ld1 3 _ (p) (3) _ rfl (ld3 _ _ _ _ ((hM.get 1 rfl).cell (3) _ (rv_3 _ _ _ _ _ _ _))) ⟨rfl, hM⟩)
          · exact fun wx hM => gw rfl (g_igtr 3 _ _ .i64 (i) ((P).ct) false rfl rfl (decide_eq_false h2) ⟨rfl, hM⟩)
          · exact pfL rfl rfl rfl
          · exact mvL rfl rfl
          · exact faL rfl rfl (fun _ => faPk2 _ _ _)
          · exact fun wx hM => gw rfl (g_ld1 9 _ (w.heap.size) (2) _ rfl (ld9 _ _ _ _ ((hM.get 0 rfl).cell (2) _ (rfl))) ⟨rfl, hM⟩)
          · exact fun wx hM => gw rfl (g_lenT _ (g) ((((g).size : Nat) : Int)) rfl (rfl) ⟨rfl, hM⟩)
          · exact fun wx hM => gw rfl (g_ine 3 _ _ .i64 ((((g).size : Nat) : Int)) (16) true rfl rfl (decide_eq_true h3) ⟨rfl, hM⟩)
          · exact pfL rfl rfl rfl
          · exact mvL rfl rfl
          · exact skL rfl
          · exact skL rfl
          · exact skL rfl
          · exact skL rfl
          · exact ptL rfl rfl rfl
        · simp only [fullL, Act.put, st_a, st_s, st_0]
          intro w9 hM
          refine κ4 _ _ (wp_cond_true rfl ?_)
          refine wp_seq_k fun _ κ10 => wl_region (wl_fare kn ?_)
          simp (disch := omega) only [fx, pv, kx]
          refine wl_nil (κ10 _ _ ?_)
          refine wp_ret ?_
          go_ret
          exact ⟨rfl, ((hM.erase 0).up 0 rfl)⟩
      · skip
        by_cases h4 : 1000 < (((tx).size : Nat) : Int)
        · obtain rfl : false = X := by rw [← hX.out]; exact (decide_eq_false (fun h0 : Fmd P ⟨i, tx, g, t, kk⟩ => by have h : (1 ≤ i ∧ i ≤ P.ct) ∧ g.size = 16 ∧ tx.size ≤ 1000 ∧ t = pte P i ∧ (0 < t ∨ kk.l = zk.l) := h0; exact absurd h.2.2.1 (by omega))).symm
          refine wp_region_fixed (by kernel_rfl) (by kernel_rfl) [.pointer (some ⟨w.heap.size, 0, none⟩), .int .i64 (i), .bool false, .bool false, .pointer (some ⟨w.heap.size, 0, none⟩), .int .i64 (i), .pointer (some ⟨p, 0, none⟩), .pointer (some ⟨p, 0, none⟩), .pointer (some ⟨p, 0, none⟩), .pointer (some ⟨p, 3, none⟩), .int .i64 ((P).ct), .bool false, .bool false, .bool false, .pointer (some ⟨w.heap.size, 2, none⟩), .string (g), .int .i64 ((((g).size : Nat) : Int)), .bool false, .bool false, .bool false, .pointer (some ⟨w.heap.size, 1, none⟩), .string (tx), .int .i64 ((((tx).size : Nat) : Int)), .bool true, .bool true] (by rfl) (fun wx => Ms w0 wx (blk (w.heap.size) (pkc (i) (tx) (g) (t) (kk)) 39 :: blk (p) (rcc (P) (k) (n) (mo) (.pointer (some ⟨q, 0, none⟩)) (.map (some m)) (wr)) 95 :: R)) hM.drew ?_ ?_
          · simp only [fullL, Act.put, st_a, st_s, st_0]
            refine ⟨?_, ?_, ?_, ?_, ?_, ?_, ?_, ?_, ?_, ?_, ?_, ?_, ?_, ?_, ?_, ?_, ?_, ?_, ?_, ?_, ?_, ?_, ?_, ?_, ?_, trivial⟩
            · exact faL rfl rfl (fun _ => faPk0 _ _ _)
            · exact fun wx hM => gw rfl (g_ld1 3 _ (w.heap.size) (0) _ rfl (ld3 _ _ _ _ ((hM.get 0 rfl).cell (0) _ (rfl))) ⟨rfl, hM⟩)
            · exact fun wx hM => gw rfl (g_ilss 3 _ _ .i64 (i) (1) false rfl rfl (decide_eq_false h1) ⟨rfl, hM⟩)
            · exact mvL rfl rfl
            · exact faL rfl rfl (fun _ => faPk0 _ _ _)
            · exact fun wx hM => gw rfl (g_ld1 3 _ (w.heap.size) (0) _ rfl (ld3 _ _ _ _ ((hM.get 0 rfl).cell (0) _ (rfl))) ⟨rfl, hM⟩)
            · exact mvL rfl rfl
            · exact ncL rfl rfl
            · exact faL rfl rfl (fun _ => faRc0 _ _ _)
            · exact faL rfl rfl (fun _ => faPl3 _ _ _)
            · exact fun wx hM => gw rfl (g_ld1 3 _ (p) (3) _ rfl (ld3 _ _ _ _ ((hM.get 1 rfl).cell (3) _ (rv_3 _ _ _ _ _ _ _))) ⟨rfl, hM⟩)
            · exact fun wx hM => gw rfl (g_igtr 3 _ _ .i64 (i) ((P).ct) false rfl rfl (decide_eq_false h2) ⟨rfl, hM⟩)
            · exact pfL rfl rfl rfl
            · exact mvL rfl rfl
            · exact faL rfl rfl (fun _ => faPk2 _ _ _)
            · exact fun wx hM => gw rfl (g_ld1 9 _ (w.heap.size) (2) _ rfl (ld9 _ _ _ _ ((hM.get 0 rfl).cell (2) _ (rfl))) ⟨rfl, hM⟩)
            · exact fun wx hM => gw rfl (g_lenT _ (g) ((((g).size : Nat) : Int)) rfl (rfl) ⟨rfl, hM⟩)
            · exact fun wx hM => gw rfl (g_ine 3 _ _ .i64 ((((g).size : Nat) : Int)) (16) false rfl rfl (decide_eq_false h3) ⟨rfl, hM⟩)
            · exact pfL rfl rfl rfl
            · exact mvL rfl rfl
            · exact faL rfl rfl (fun _ => faPk1 _ _ _)
            · exact fun wx hM => gw rfl (g_ld1 9 _ (w.heap.size) (1) _ rfl (ld9 _ _ _ _ ((hM.get 0 rfl).cell (1) _ (rfl))) ⟨rfl, hM⟩)
            · exact fun wx hM => gw rfl (g_lenT _ (tx) ((((tx).size : Nat) : Int)) rfl (rfl) ⟨rfl, hM⟩)
            · exact fun wx hM => gw rfl (g_igtr 3 _ _ .i64 ((((tx).size : Nat) : Int)) (1000) true rfl rfl (decide_eq_true h4) ⟨rfl, hM⟩)
            · exact pfL rfl rfl rfl
          · simp only [fullL, Act.put, st_a, st_s, st_0]
            intro w11 hM
            refine κ4 _ _ (wp_cond_true rfl ?_)
            refine wp_seq_k fun _ κ12 => wl_region (wl_fare kn ?_)
            simp (disch := omega) only [fx, pv, kx]
            refine wl_nil (κ12 _ _ ?_)
            refine wp_ret ?_
            go_ret
            exact ⟨rfl, ((hM.erase 0).up 0 rfl)⟩
        · skip
          refine wp_region_fixed (by kernel_rfl) (by kernel_rfl) [.pointer (some ⟨w.heap.size, 0, none⟩), .int .i64 (i), .bool false, .bool false, .pointer (some ⟨w.heap.size, 0, none⟩), .int .i64 (i), .pointer (some ⟨p, 0, none⟩), .pointer (some ⟨p, 0, none⟩), .pointer (some ⟨p, 0, none⟩), .pointer (some ⟨p, 3, none⟩), .int .i64 ((P).ct), .bool false, .bool false, .bool false, .pointer (some ⟨w.heap.size, 2, none⟩), .string (g), .int .i64 ((((g).size : Nat) : Int)), .bool false, .bool false, .bool false, .pointer (some ⟨w.heap.size, 1, none⟩), .string (tx), .int .i64 ((((tx).size : Nat) : Int)), .bool false, .bool false] (by rfl) (fun wx => Ms w0 wx (blk (w.heap.size) (pkc (i) (tx) (g) (t) (kk)) 39 :: blk (p) (rcc (P) (k) (n) (mo) (.pointer (some ⟨q, 0, none⟩)) (.map (some m)) (wr)) 95 :: R)) hM.drew ?_ ?_
          · simp only [fullL, Act.put, st_a, st_s, st_0]
            refine ⟨?_, ?_, ?_, ?_, ?_, ?_, ?_, ?_, ?_, ?_, ?_, ?_, ?_, ?_, ?_, ?_, ?_, ?_, ?_, ?_, ?_, ?_, ?_, ?_, ?_, trivial⟩
            · exact faL rfl rfl (fun _ => faPk0 _ _ _)
            · exact fun wx hM => gw rfl (g_ld1 3 _ (w.heap.size) (0) _ rfl (ld3 _ _ _ _ ((hM.get 0 rfl).cell (0) _ (rfl))) ⟨rfl, hM⟩)
            · exact fun wx hM => gw rfl (g_ilss 3 _ _ .i64 (i) (1) false rfl rfl (decide_eq_false h1) ⟨rfl, hM⟩)
            · exact mvL rfl rfl
            · exact faL rfl rfl (fun _ => faPk0 _ _ _)
            · exact fun wx hM => gw rfl (g_ld1 3 _ (w.heap.size) (0) _ rfl (ld3 _ _ _ _ ((hM.get 0 rfl).cell (0) _ (rfl))) ⟨rfl, hM⟩)
            · exact mvL rfl rfl
            · exact ncL rfl rfl
            · exact faL rfl rfl (fun _ => faRc0 _ _ _)
            · exact faL rfl rfl (fun _ => faPl3 _ _ _)
            · exact fun wx hM => gw rfl (g_ld1 3 _ (p) (3) _ rfl (ld3 _ _ _ _ ((hM.get 1 rfl).cell (3) _ (rv_3 _ _ _ _ _ _ _))) ⟨rfl, hM⟩)
            · exact fun wx hM => gw rfl (g_igtr 3 _ _ .i64 (i) ((P).ct) false rfl rfl (decide_eq_false h2) ⟨rfl, hM⟩)
            · exact pfL rfl rfl rfl
            · exact mvL rfl rfl
            · exact faL rfl rfl (fun _ => faPk2 _ _ _)
            · exact fun wx hM => gw rfl (g_ld1 9 _ (w.heap.size) (2) _ rfl (ld9 _ _ _ _ ((hM.get 0 rfl).cell (2) _ (rfl))) ⟨rfl, hM⟩)
            · exact fun wx hM => gw rfl (g_lenT _ (g) ((((g).size : Nat) : Int)) rfl (rfl) ⟨rfl, hM⟩)
            · exact fun wx hM => gw rfl (g_ine 3 _ _ .i64 ((((g).size : Nat) : Int)) (16) false rfl rfl (decide_eq_false h3) ⟨rfl, hM⟩)
            · exact pfL rfl rfl rfl
            · exact mvL rfl rfl
            · exact faL rfl rfl (fun _ => faPk1 _ _ _)
            · exact fun wx hM => gw rfl (g_ld1 9 _ (w.heap.size) (1) _ rfl (ld9 _ _ _ _ ((hM.get 0 rfl).cell (1) _ (rfl))) ⟨rfl, hM⟩)
            · exact fun wx hM => gw rfl (g_lenT _ (tx) ((((tx).size : Nat) : Int)) rfl (rfl) ⟨rfl, hM⟩)
            · exact fun wx hM => gw rfl (g_igtr 3 _ _ .i64 ((((tx).size : Nat) : Int)) (1000) false rfl rfl (decide_eq_false h4) ⟨rfl, hM⟩)
            · exact pfL rfl rfl rfl
          · simp only [fullL, Act.put, st_a, st_s, st_0]
            intro w13 hM
            refine κ4 _ _ (wp_cond_false rfl ?_)
            refine wp_skip (κ3 _ _ ?_)
            refine wp_seq_k fun _ κ14 => ?_
            by_cases h5 : t = T
            · skip
              by_cases h6 : 0 < t
              · obtain rfl : true = X := by rw [← hX.out]; exact (decide_eq_true (show Fmd P ⟨i, tx, g, t, kk⟩ from ⟨⟨by show 1 ≤ i; omega, by show i ≤ P.ct; omega⟩, by show g.size = 16; omega, by show tx.size ≤ 1000; omega, h5.trans hT.symm, .inl h6⟩)).symm
                refine wp_region_fixed (by kernel_rfl) (by kernel_rfl) [.pointer (some ⟨w.heap.size, 3, none⟩), .int .i64 (t), .pointer (some ⟨p, 0, none⟩), .pointer (some ⟨p, 0, none⟩), .pointer (some ⟨p, 0, none⟩), .agg (plc (P)).toArray, .pointer (some ⟨w.heap.size, 0, none⟩), .int .i64 (i), .int .i64 (T), .bool true, .bool true, .pointer (some ⟨w.heap.size, 3, none⟩), .int .i64 (t), .bool true, .bool true, undef, undef, undef, undef, .bool true, .bool true, .bool true] (by rfl) (fun wx => Ms w0 wx (blk (w.heap.size) (pkc (i) (tx) (g) (t) (kk)) 39 :: blk (p) (rcc (P) (k) (n) (mo) (.pointer (some ⟨q, 0, none⟩)) (.map (some m)) (wr)) 95 :: R)) hM.drew ?_ ?_
                · simp only [fullL, Act.put, st_a, st_s, st_0]
                  refine ⟨?_, ?_, ?_, ?_, ?_, ?_, ?_, ?_, ?_, ?_, ?_, ?_, ?_, ?_, ?_, ?_, ?_, ?_, ?_, ?_, ?_, ?_, trivial⟩
                  · exact faL rfl rfl (fun _ => faPk3 _ _ _)
                  · exact fun wx hM => gw rfl (g_ld1 3 _ (w.heap.size) (3) _ rfl (ld3 _ _ _ _ ((hM.get 0 rfl).cell (3) _ (rfl))) ⟨rfl, hM⟩)
                  · exact mvL rfl rfl
                  · exact ncL rfl rfl
                  · exact faL rfl rfl (fun _ => faRc0 _ _ _)
                  · exact fun wx hM => gw rfl (g_load 25 _ (p) (0) 4 _ 95 _ rfl (hM.get 1 rfl) Tryz.underlying25 rfl sizeP (by rw [rcc_length]; decide) (plc (P)) (rv_plan _ _ _ _ _ _ _) ⟨rfl, hM⟩)
                  · exact faL rfl rfl (fun _ => faPk0 _ _ _)
                  · exact fun wx hM => gw rfl (g_ld1 3 _ (w.heap.size) (0) _ rfl (ld3 _ _ _ _ ((hM.get 0 rfl).cell (0) _ (rfl))) ⟨rfl, hM⟩)
                  · exact fun wx hM => gw rfl (g_call 55 _ _ [.agg (plc (P)).toArray, .int .i64 (i)] (kf55 _ _) rfl ((ptells_any P i wx T ⟨hT⟩).mono (fun _ _ ⟨h1_, h2_⟩ => ⟨_, h1_, rfl, hM.call h2_⟩)))
                  · exact fun wx hM => gw rfl (g_ieq 3 _ _ .i64 (t) (T) true rfl rfl (decide_eq_true h5) ⟨rfl, hM⟩)
                  · exact mvL rfl rfl
                  · exact faL rfl rfl (fun _ => faPk3 _ _ _)
                  · exact fun wx hM => gw rfl (g_ld1 3 _ (w.heap.size) (3) _ rfl (ld3 _ _ _ _ ((hM.get 0 rfl).cell (3) _ (rfl))) ⟨rfl, hM⟩)
                  · exact fun wx hM => gw rfl (g_igtr 3 _ _ .i64 (t) (0) true rfl rfl (decide_eq_true h6) ⟨rfl, hM⟩)
                  · exact mvL rfl rfl
                  · exact skL rfl
                  · exact skL rfl
                  · exact skL rfl
                  · exact skL rfl
                  · exact ptL rfl rfl rfl
                  · exact ptL rfl rfl rfl
                  · exact asL rfl rfl
                · simp only [fullL, Act.put, st_a, st_s, st_0]
                  intro w15 hM
                  refine κ14 _ _ (wp_ret ?_)
                  go_ret
                  exact ⟨rfl, ((hM.erase 0).up 0 rfl)⟩
              · skip
                by_cases h7 : kk.l = zk.l
                · obtain rfl : true = X := by rw [← hX.out]; exact (decide_eq_true (show Fmd P ⟨i, tx, g, t, kk⟩ from ⟨⟨by show 1 ≤ i; omega, by show i ≤ P.ct; omega⟩, by show g.size = 16; omega, by show tx.size ≤ 1000; omega, h5.trans hT.symm, .inr h7⟩)).symm
                  refine wp_region_fixed (by kernel_rfl) (by kernel_rfl) [.pointer (some ⟨w.heap.size, 3, none⟩), .int .i64 (t), .pointer (some ⟨p, 0, none⟩), .pointer (some ⟨p, 0, none⟩), .pointer (some ⟨p, 0, none⟩), .agg (plc (P)).toArray, .pointer (some ⟨w.heap.size, 0, none⟩), .int .i64 (i), .int .i64 (T), .bool true, .bool true, .pointer (some ⟨w.heap.size, 3, none⟩), .int .i64 (t), .bool false, .bool false, .pointer (some ⟨w.heap.size, 4, none⟩), .agg (kc (kk)).toArray, .agg (kc (zk)).toArray, .bool true, .bool true, .bool true, .bool true] (by rfl) (fun wx => Ms w0 wx (blk (w.heap.size) (pkc (i) (tx) (g) (t) (kk)) 39 :: blk (p) (rcc (P) (k) (n) (mo) (.pointer (some ⟨q, 0, none⟩)) (.map (some m)) (wr)) 95 :: R)) hM.drew ?_ ?_
                  · simp only [fullL, Act.put, st_a, st_s, st_0]
                    refine ⟨?_, ?_, ?_, ?_, ?_, ?_, ?_, ?_, ?_, ?_, ?_, ?_, ?_, ?_, ?_, ?_, ?_, ?_, ?_, ?_, ?_, ?_, trivial⟩
                    · exact faL rfl rfl (fun _ => faPk3 _ _ _)
                    · exact fun wx hM => gw rfl (g_ld1 3 _ (w.heap.size) (3) _ rfl (ld3 _ _ _ _ ((hM.get 0 rfl).cell (3) _ (rfl))) ⟨rfl, hM⟩)
                    · exact mvL rfl rfl
                    · exact ncL rfl rfl
                    · exact faL rfl rfl (fun _ => faRc0 _ _ _)
                    · exact fun wx hM => gw rfl (g_load 25 _ (p) (0) 4 _ 95 _ rfl (hM.get 1 rfl) Tryz.underlying25 rfl sizeP (by rw [rcc_length]; decide) (plc (P)) (rv_plan _ _ _ _ _ _ _) ⟨rfl, hM⟩)
                    · exact faL rfl rfl (fun _ => faPk0 _ _ _)
                    · exact fun wx hM => gw rfl (g_ld1 3 _ (w.heap.size) (0) _ rfl (ld3 _ _ _ _ ((hM.get 0 rfl).cell (0) _ (rfl))) ⟨rfl, hM⟩)
                    · exact fun wx hM => gw rfl (g_call 55 _ _ [.agg (plc (P)).toArray, .int .i64 (i)] (kf55 _ _) rfl ((ptells_any P i wx T ⟨hT⟩).mono (fun _ _ ⟨h1_, h2_⟩ => ⟨_, h1_, rfl, hM.call h2_⟩)))
                    · exact fun wx hM => gw rfl (g_ieq 3 _ _ .i64 (t) (T) true rfl rfl (decide_eq_true h5) ⟨rfl, hM⟩)
                    · exact mvL rfl rfl
                    · exact faL rfl rfl (fun _ => faPk3 _ _ _)
                    · exact fun wx hM => gw rfl (g_ld1 3 _ (w.heap.size) (3) _ rfl (ld3 _ _ _ _ ((hM.get 0 rfl).cell (3) _ (rfl))) ⟨rfl, hM⟩)
                    · exact fun wx hM => gw rfl (g_igtr 3 _ _ .i64 (t) (0) false rfl rfl (decide_eq_false h6) ⟨rfl, hM⟩)
                    · exact mvL rfl rfl
                    · exact faL rfl rfl (fun _ => faPk4 _ _ _)
                    · exact fun wx hM => gw rfl (g_load 23 _ (w.heap.size) (4) 32 _ 39 _ rfl (hM.get 0 rfl) Tryz.underlying23 rfl size23 (by rw [pkc_length]; decide) (kc (kk)) (pk_key (kk) (i) (tx) (g) (t)) ⟨rfl, hM⟩)
                    · exact fun wx hM => gw rfl (g_bldK0 ⟨rfl, hM⟩)
                    · exact fun wx hM => gw rfl (g_eqlK _ _ (kk) (zk) true rfl rfl (decide_eq_true h7) ⟨rfl, hM⟩)
                    · exact pfL rfl rfl rfl
                    · exact ptL rfl rfl rfl
                    · exact asL rfl rfl
                  · simp only [fullL, Act.put, st_a, st_s, st_0]
                    intro w16 hM
                    refine κ14 _ _ (wp_ret ?_)
                    go_ret
                    exact ⟨rfl, ((hM.erase 0).up 0 rfl)⟩
                · obtain rfl : false = X := by rw [← hX.out]; exact (decide_eq_false (fun h0 : Fmd P ⟨i, tx, g, t, kk⟩ => by have h : (1 ≤ i ∧ i ≤ P.ct) ∧ g.size = 16 ∧ tx.size ≤ 1000 ∧ t = pte P i ∧ (0 < t ∨ kk.l = zk.l) := h0; exact h.2.2.2.2.elim h6 h7)).symm
                  refine wp_region_fixed (by kernel_rfl) (by kernel_rfl) [.pointer (some ⟨w.heap.size, 3, none⟩), .int .i64 (t), .pointer (some ⟨p, 0, none⟩), .pointer (some ⟨p, 0, none⟩), .pointer (some ⟨p, 0, none⟩), .agg (plc (P)).toArray, .pointer (some ⟨w.heap.size, 0, none⟩), .int .i64 (i), .int .i64 (T), .bool true, .bool true, .pointer (some ⟨w.heap.size, 3, none⟩), .int .i64 (t), .bool false, .bool false, .pointer (some ⟨w.heap.size, 4, none⟩), .agg (kc (kk)).toArray, .agg (kc (zk)).toArray, .bool false, .bool false, .bool false, .bool false] (by rfl) (fun wx => Ms w0 wx (blk (w.heap.size) (pkc (i) (tx) (g) (t) (kk)) 39 :: blk (p) (rcc (P) (k) (n) (mo) (.pointer (some ⟨q, 0, none⟩)) (.map (some m)) (wr)) 95 :: R)) hM.drew ?_ ?_
                  · simp only [fullL, Act.put, st_a, st_s, st_0]
                    refine ⟨?_, ?_, ?_, ?_, ?_, ?_, ?_, ?_, ?_, ?_, ?_, ?_, ?_, ?_, ?_, ?_, ?_, ?_, ?_, ?_, ?_, ?_, trivial⟩
                    · exact faL rfl rfl (fun _ => faPk3 _ _ _)
                    · exact fun wx hM => gw rfl (g_ld1 3 _ (w.heap.size) (3) _ rfl (ld3 _ _ _ _ ((hM.get 0 rfl).cell (3) _ (rfl))) ⟨rfl, hM⟩)
                    · exact mvL rfl rfl
                    · exact ncL rfl rfl
                    · exact faL rfl rfl (fun _ => faRc0 _ _ _)
                    · exact fun wx hM => gw rfl (g_load 25 _ (p) (0) 4 _ 95 _ rfl (hM.get 1 rfl) Tryz.underlying25 rfl sizeP (by rw [rcc_length]; decide) (plc (P)) (rv_plan _ _ _ _ _ _ _) ⟨rfl, hM⟩)
                    · exact faL rfl rfl (fun _ => faPk0 _ _ _)
                    · exact fun wx hM => gw rfl (g_ld1 3 _ (w.heap.size) (0) _ rfl (ld3 _ _ _ _ ((hM.get 0 rfl).cell (0) _ (rfl))) ⟨rfl, hM⟩)
                    · exact fun wx hM => gw rfl (g_call 55 _ _ [.agg (plc (P)).toArray, .int .i64 (i)] (kf55 _ _) rfl ((ptells_any P i wx T ⟨hT⟩).mono (fun _ _ ⟨h1_, h2_⟩ => ⟨_, h1_, rfl, hM.call h2_⟩)))
                    · exact fun wx hM => gw rfl (g_ieq 3 _ _ .i64 (t) (T) true rfl rfl (decide_eq_true h5) ⟨rfl, hM⟩)
                    · exact mvL rfl rfl
                    · exact faL rfl rfl (fun _ => faPk3 _ _ _)
                    · exact fun wx hM => gw rfl (g_ld1 3 _ (w.heap.size) (3) _ rfl (ld3 _ _ _ _ ((hM.get 0 rfl).cell (3) _ (rfl))) ⟨rfl, hM⟩)
                    · exact fun wx hM => gw rfl (g_igtr 3 _ _ .i64 (t) (0) false rfl rfl (decide_eq_false h6) ⟨rfl, hM⟩)
                    · exact mvL rfl rfl
                    · exact faL rfl rfl (fun _ => faPk4 _ _ _)
                    · exact fun wx hM => gw rfl (g_load 23 _ (w.heap.size) (4) 32 _ 39 _ rfl (hM.get 0 rfl) Tryz.underlying23 rfl size23 (by rw [pkc_length]; decide) (kc (kk)) (pk_key (kk) (i) (tx) (g) (t)) ⟨rfl, hM⟩)
                    · exact fun wx hM => gw rfl (g_bldK0 ⟨rfl, hM⟩)
                    · exact fun wx hM => gw rfl (g_eqlK _ _ (kk) (zk) false rfl rfl (decide_eq_false h7) ⟨rfl, hM⟩)
                    · exact pfL rfl rfl rfl
                    · exact ptL rfl rfl rfl
                    · exact asL rfl rfl
                  · simp only [fullL, Act.put, st_a, st_s, st_0]
                    intro w17 hM
                    refine κ14 _ _ (wp_ret ?_)
                    go_ret
                    exact ⟨rfl, ((hM.erase 0).up 0 rfl)⟩
            · obtain rfl : false = X := by rw [← hX.out]; exact (decide_eq_false (fun h0 : Fmd P ⟨i, tx, g, t, kk⟩ => by have h : (1 ≤ i ∧ i ≤ P.ct) ∧ g.size = 16 ∧ tx.size ≤ 1000 ∧ t = pte P i ∧ (0 < t ∨ kk.l = zk.l) := h0; exact h5 (h.2.2.2.1.trans hT))).symm
              refine wp_region_fixed (by kernel_rfl) (by kernel_rfl) [.pointer (some ⟨w.heap.size, 3, none⟩), .int .i64 (t), .pointer (some ⟨p, 0, none⟩), .pointer (some ⟨p, 0, none⟩), .pointer (some ⟨p, 0, none⟩), .agg (plc (P)).toArray, .pointer (some ⟨w.heap.size, 0, none⟩), .int .i64 (i), .int .i64 (T), .bool false, .bool false, undef, undef, undef, undef, undef, undef, undef, undef, undef, .bool false, .bool false] (by rfl) (fun wx => Ms w0 wx (blk (w.heap.size) (pkc (i) (tx) (g) (t) (kk)) 39 :: blk (p) (rcc (P) (k) (n) (mo) (.pointer (some ⟨q, 0, none⟩)) (.map (some m)) (wr)) 95 :: R)) hM.drew ?_ ?_
              · simp only [fullL, Act.put, st_a, st_s, st_0]
                refine ⟨?_, ?_, ?_, ?_, ?_, ?_, ?_, ?_, ?_, ?_, ?_, ?_, ?_, ?_, ?_, ?_, ?_, ?_, ?_, ?_, ?_, ?_, trivial⟩
                · exact faL rfl rfl (fun _ => faPk3 _ _ _)
                · exact fun wx hM => gw rfl (g_ld1 3 _ (w.heap.size) (3) _ rfl (ld3 _ _ _ _ ((hM.get 0 rfl).cell (3) _ (rfl))) ⟨rfl, hM⟩)
                · exact mvL rfl rfl
                · exact ncL rfl rfl
                · exact faL rfl rfl (fun _ => faRc0 _ _ _)
                · exact fun wx hM => gw rfl (g_load 25 _ (p) (0) 4 _ 95 _ rfl (hM.get 1 rfl) Tryz.underlying25 rfl sizeP (by rw [rcc_length]; decide) (plc (P)) (rv_plan _ _ _ _ _ _ _) ⟨rfl, hM⟩)
                · exact faL rfl rfl (fun _ => faPk0 _ _ _)
                · exact fun wx hM => gw rfl (g_ld1 3 _ (w.heap.size) (0) _ rfl (ld3 _ _ _ _ ((hM.get 0 rfl).cell (0) _ (rfl))) ⟨rfl, hM⟩)
                · exact fun wx hM => gw rfl (g_call 55 _ _ [.agg (plc (P)).toArray, .int .i64 (i)] (kf55 _ _) rfl ((ptells_any P i wx T ⟨hT⟩).mono (fun _ _ ⟨h1_, h2_⟩ => ⟨_, h1_, rfl, hM.call h2_⟩)))
                · exact fun wx hM => gw rfl (g_ieq 3 _ _ .i64 (t) (T) false rfl rfl (decide_eq_false h5) ⟨rfl, hM⟩)
                · exact mvL rfl rfl
                · exact skL rfl
                · exact skL rfl
                · exact skL rfl
                · exact skL rfl
                · exact skL rfl
                · exact skL rfl
                · exact skL rfl
                · exact skL rfl
                · exact skL rfl
                · exact pfL rfl rfl rfl
                · exact asL rfl rfl
              · simp only [fullL, Act.put, st_a, st_s, st_0]
                intro w18 hM
                refine κ14 _ _ (wp_ret ?_)
                go_ret
                exact ⟨rfl, ((hM.erase 0).up 0 rfl)⟩
set_option maxHeartbeats 4000000 in
theorem wait_any {w0 w : World} {R : List HP} {p q m x : Nat} {P : Pl} {k : Ky} {n mo wr y d : Int} {L B : List Thg} {E : List (Int × Nat)} (i : Int) (tx g : ByteArray) (t : Int) (kk : Ky) (la : Int) (hM : Ms w0 w (blk (p) (rcc (P) (k) (n) (mo) (.pointer (some ⟨q, 0, none⟩)) (.map (some m)) (wr)) 95 :: bf q x y (d) (L) :: bl m E (B) :: R)) (hx : 1 ≤ x ∧ x ≤ 64) (hi : i ≤ 9223372036854775807) (hd : 0 ≤ d ∧ d < 1000000) (hg : g.size ≤ 16) (ht : tx.size ≤ 1000) (E2 : Int) (S2 : Rc) (h : Shut (wtg (⟨P, k, n, mo, x, y, d, L, B, wr⟩ : Rc) ⟨i, tx, g, t, kk⟩ la = (E2, S2))) : Calls Tryz.prog 37 #[.pointer (some ⟨p, 0, none⟩), .agg (pkc i tx g t kk).toArray, .int .i64 la] w fun e w' => e = .returned (.int .i64 E2) ∧ Ms w0 w' (blk (p) (rcc (P) (k) (n) (mo) (.pointer (some ⟨q, 0, none⟩)) (.map (some m)) (wr)) 95 :: bf q x y (S2.d) (S2.L) :: bl m E (B) :: R) := by
  go_enter Tryz.func37, Tryz.ntmps37
  refine wp_seq_k fun _ κ1 => wl_region (wl_give rfl (g_box 39 _ (pkc (i) (tx) (g) (t) (kk)) rfl ?_))
  intro w2 t_ b_
  replace hM := hM.new t_ b_
  clear t_ b_
  refine wl_fare kn ?_
  simp (disch := omega) only [fx, pv, kx]
  refine wl_nil (κ1 _ _ ?_)
  refine wp_seq_k fun _ κ3 => wp_seq_k fun _ κ4 => ?_
  by_cases hs : psf P i la = true
  · skip
    refine wp_region_fixed (by kernel_rfl) (by kernel_rfl) [.pointer (some ⟨p, 0, none⟩), .pointer (some ⟨p, 0, none⟩), .pointer (some ⟨p, 0, none⟩), .agg (plc (P)).toArray, .pointer (some ⟨w.heap.size, 0, none⟩), .int .i64 (i), .int .i64 (la), .bool true, .bool false] (by rfl) (fun wx => Ms w0 wx (blk (w.heap.size) (pkc (i) (tx) (g) (t) (kk)) 39 :: blk (p) (rcc (P) (k) (n) (mo) (.pointer (some ⟨q, 0, none⟩)) (.map (some m)) (wr)) 95 :: bf q x y (d) (L) :: bl m E (B) :: R)) hM.drew ?_ ?_
    · simp only [fullL, Act.put, st_a, st_s, st_0]
      refine ⟨?_, ?_, ?_, ?_, ?_, ?_, ?_, ?_, ?_, trivial⟩
      · exact mvL rfl rfl
      · exact ncL rfl rfl
      · exact faL rfl rfl (fun _ => faRc0 _ _ _)
      · exact fun wx hM => gw rfl (g_load 25 _ (p) (0) 4 _ 95 _ rfl (hM.get 1 rfl) Tryz.underlying25 rfl sizeP (by rw [rcc_length]; decide) (plc (P)) (rv_plan _ _ _ _ _ _ _) ⟨rfl, hM⟩)
      · exact faL rfl rfl (fun _ => faPk0 _ _ _)
      · exact fun wx hM => gw rfl (g_ld1 3 _ (w.heap.size) (0) _ rfl (ld3 _ _ _ _ ((hM.get 0 rfl).cell (0) _ (rfl))) ⟨rfl, hM⟩)
      · exact mvL rfl rfl
      · exact fun wx hM => gw rfl (g_call 62 _ _ [.agg (plc (P)).toArray, .int .i64 (i), .int .i64 (la)] (kf62 _ _) rfl ((psafe_any P i la wx true ⟨hs⟩).mono (fun _ _ ⟨h1_, h2_⟩ => ⟨_, h1_, rfl, hM.call h2_⟩)))
      · exact fun wx hM => gw rfl (g_unot 4 _ true rfl ⟨rfl, hM⟩)
    · simp only [fullL, Act.put, st_a, st_s, st_0]
      intro w5 hM
      refine κ4 _ _ (wp_cond_false rfl ?_)
      refine wp_skip (κ3 _ _ ?_)
      refine wp_seq_k fun _ κ6 => wp_seq_k fun _ κ7 => ?_
      by_cases hb : hasT i tx B = true
      · obtain ⟨rfl, rfl⟩ : 11 = E2 ∧ (⟨P, k, n, mo, x, y, d, L, B, wr⟩ : Rc) = S2 := by have h := h.out; unfold wtg at h; rw [if_neg (by simp [hs]), if_pos hb] at h; cases h; exact ⟨rfl, rfl⟩
        refine wp_region_fixed (by kernel_rfl) (by kernel_rfl) [.pointer (some ⟨p, 0, none⟩), .pointer (some ⟨p, 0, none⟩), .pointer (some ⟨p, 39, none⟩), .map (some m), .pointer (some ⟨w.heap.size, 0, none⟩), .int .i64 (i), blV E (i), .pointer (some ⟨w.heap.size, 1, none⟩), .string (tx), .bool true] (by rfl) (fun wx => Ms w0 wx (blk (w.heap.size) (pkc (i) (tx) (g) (t) (kk)) 39 :: blk (p) (rcc (P) (k) (n) (mo) (.pointer (some ⟨q, 0, none⟩)) (.map (some m)) (wr)) 95 :: bf q x y (d) (L) :: bl m E (B) :: R)) hM.drew ?_ ?_
        · simp only [fullL, Act.put, st_a, st_s, st_0]
          refine ⟨?_, ?_, ?_, ?_, ?_, ?_, ?_, ?_, ?_, ?_, trivial⟩
          · exact mvL rfl rfl
          · exact ncL rfl rfl
          · exact faL rfl rfl (fun _ => faRc4 _ _ _)
          · exact fun wx hM => gw rfl (g_ld1 93 _ (p) (39) _ rfl (ld93 _ _ _ _ ((hM.get 1 rfl).cell (39) _ (rv_39 _ _ _ _ _ _ _))) ⟨rfl, hM⟩)
          · exact faL rfl rfl (fun _ => faPk0 _ _ _)
          · exact fun wx hM => gw rfl (g_ld1 3 _ (w.heap.size) (0) _ rfl (ld3 _ _ _ _ ((hM.get 0 rfl).cell (0) _ (rfl))) ⟨rfl, hM⟩)
          · exact fun wx hM => gw rfl (g_bl1 _ _ (i) rfl rfl (show Ms w0 _ (bl m E (B) :: blk (w.heap.size) (pkc (i) (tx) (g) (t) (kk)) 39 :: blk (p) (rcc (P) (k) (n) (mo) (.pointer (some ⟨q, 0, none⟩)) (.map (some m)) (wr)) 95 :: bf q x y (d) (L) :: R) from (hM.up 3 rfl)) ⟨rfl, hM⟩)
          · exact faL rfl rfl (fun _ => faPk1 _ _ _)
          · exact fun wx hM => gw rfl (g_ld1 9 _ (w.heap.size) (1) _ rfl (ld9 _ _ _ _ ((hM.get 0 rfl).cell (1) _ (rfl))) ⟨rfl, hM⟩)
          · exact fun wx hM => gw rfl (g_bl2 _ _ (i) (tx) true rfl rfl (show Ms w0 _ (bl m E (B) :: blk (w.heap.size) (pkc (i) (tx) (g) (t) (kk)) 39 :: blk (p) (rcc (P) (k) (n) (mo) (.pointer (some ⟨q, 0, none⟩)) (.map (some m)) (wr)) 95 :: bf q x y (d) (L) :: R) from (hM.up 3 rfl)) (hb) ⟨rfl, hM⟩)
        · simp only [fullL, Act.put, st_a, st_s, st_0]
          intro w8 hM
          refine κ7 _ _ (wp_cond_true rfl ?_)
          refine wp_seq_k fun _ κ9 => wl_region (wl_fare kn ?_)
          simp (disch := omega) only [fx, pv, kx]
          refine wl_nil (κ9 _ _ ?_)
          refine wp_ret ?_
          go_ret
          exact ⟨rfl, ((((hM.erase 0).up 2 rfl).up 2 rfl).up 2 rfl)⟩
      · obtain ⟨rfl, rfl⟩ : bpE x y i (g ++ tx) L = E2 ∧ (⟨P, k, n, mo, x, y, bpD x y i (g ++ tx) L d, bpL x y i (g ++ tx) L, B, wr⟩ : Rc) = S2 := by have h := h.out; unfold wtg at h; rw [if_neg (by simp [hs]), if_neg hb] at h; cases h; exact ⟨rfl, rfl⟩
        refine wp_region_fixed (by kernel_rfl) (by kernel_rfl) [.pointer (some ⟨p, 0, none⟩), .pointer (some ⟨p, 0, none⟩), .pointer (some ⟨p, 39, none⟩), .map (some m), .pointer (some ⟨w.heap.size, 0, none⟩), .int .i64 (i), blV E (i), .pointer (some ⟨w.heap.size, 1, none⟩), .string (tx), .bool false] (by rfl) (fun wx => Ms w0 wx (blk (w.heap.size) (pkc (i) (tx) (g) (t) (kk)) 39 :: blk (p) (rcc (P) (k) (n) (mo) (.pointer (some ⟨q, 0, none⟩)) (.map (some m)) (wr)) 95 :: bf q x y (d) (L) :: bl m E (B) :: R)) hM.drew ?_ ?_
        · simp only [fullL, Act.put, st_a, st_s, st_0]
          refine ⟨?_, ?_, ?_, ?_, ?_, ?_, ?_, ?_, ?_, ?_, trivial⟩
          · exact mvL rfl rfl
          · exact ncL rfl rfl
          · exact faL rfl rfl (fun _ => faRc4 _ _ _)
          · exact fun wx hM => gw rfl (g_ld1 93 _ (p) (39) _ rfl (ld93 _ _ _ _ ((hM.get 1 rfl).cell (39) _ (rv_39 _ _ _ _ _ _ _))) ⟨rfl, hM⟩)
          · exact faL rfl rfl (fun _ => faPk0 _ _ _)
          · exact fun wx hM => gw rfl (g_ld1 3 _ (w.heap.size) (0) _ rfl (ld3 _ _ _ _ ((hM.get 0 rfl).cell (0) _ (rfl))) ⟨rfl, hM⟩)
          · exact fun wx hM => gw rfl (g_bl1 _ _ (i) rfl rfl (show Ms w0 _ (bl m E (B) :: blk (w.heap.size) (pkc (i) (tx) (g) (t) (kk)) 39 :: blk (p) (rcc (P) (k) (n) (mo) (.pointer (some ⟨q, 0, none⟩)) (.map (some m)) (wr)) 95 :: bf q x y (d) (L) :: R) from (hM.up 3 rfl)) ⟨rfl, hM⟩)
          · exact faL rfl rfl (fun _ => faPk1 _ _ _)
          · exact fun wx hM => gw rfl (g_ld1 9 _ (w.heap.size) (1) _ rfl (ld9 _ _ _ _ ((hM.get 0 rfl).cell (1) _ (rfl))) ⟨rfl, hM⟩)
          · exact fun wx hM => gw rfl (g_bl2 _ _ (i) (tx) false rfl rfl (show Ms w0 _ (bl m E (B) :: blk (w.heap.size) (pkc (i) (tx) (g) (t) (kk)) 39 :: blk (p) (rcc (P) (k) (n) (mo) (.pointer (some ⟨q, 0, none⟩)) (.map (some m)) (wr)) 95 :: bf q x y (d) (L) :: R) from (hM.up 3 rfl)) (by simpa using hb) ⟨rfl, hM⟩)
        · simp only [fullL, Act.put, st_a, st_s, st_0]
          intro w10 hM
          refine κ7 _ _ (wp_cond_false rfl ?_)
          refine wp_skip (κ6 _ _ ?_)
          refine wp_seq_k fun _ κ11 => ?_
          refine wp_region_steps (by kernel_rfl) (by kernel_rfl) [11] [0, 0, 0, 0, 0, 0, 0, 0, 0, 0, 0, 0, 1] [1, 1, 1, 0, 1, 0, 1, 1, 1, 1, 0, 1, 1] (by kernel_rfl) (Pm := Unit) (fun π => [.pointer (some ⟨p, 0, none⟩), .pointer (some ⟨p, 0, none⟩), .pointer (some ⟨p, 38, none⟩), .pointer (some ⟨q, 0, none⟩), .pointer (some ⟨w.heap.size, 0, none⟩), .int .i64 (i), .pointer (some ⟨w.heap.size, 2, none⟩), .string (g), .pointer (some ⟨w.heap.size, 1, none⟩), .string (tx), .string (g ++ tx), .int .i64 (bpE x y i (g ++ tx) L), .int .i64 (bpE x y i (g ++ tx) L)]) (fun _ => by rfl) (fun j_ π wx => match j_ with | 0 => Ms w0 wx (blk (w.heap.size) (pkc (i) (tx) (g) (t) (kk)) 39 :: blk (p) (rcc (P) (k) (n) (mo) (.pointer (some ⟨q, 0, none⟩)) (.map (some m)) (wr)) 95 :: bf q x y (d) (L) :: bl m E (B) :: R) | _ => Ms w0 wx (bf q x y (bpD x y i (g ++ tx) L d) (bpL x y i (g ++ tx) L) :: blk (w.heap.size) (pkc (i) (tx) (g) (t) (kk)) 39 :: blk (p) (rcc (P) (k) (n) (mo) (.pointer (some ⟨q, 0, none⟩)) (.map (some m)) (wr)) 95 :: bl m E (B) :: R)) () hM.drew ?_ ?_ ?_
          · intro j_ k_ o_ hj_ ho_ π wx hM
            rcases j_ with _ | j_
            · obtain rfl := Option.some.inj hj_
              cases so ho_
              simp only [fullL, Act.put, st_a, st_s, st_0]
              change Ms _ _ _ at hM
              exact gw rfl (g_call 63 _ _ [.pointer (some ⟨q, 0, none⟩), .int .i64 (i), .string (g ++ tx)] (kf63 _ _) rfl ((bput_any (show Ms w0 wx (bf q x y (d) (L) :: blk (w.heap.size) (pkc (i) (tx) (g) (t) (kk)) 39 :: blk (p) (rcc (P) (k) (n) (mo) (.pointer (some ⟨q, 0, none⟩)) (.map (some m)) (wr)) 95 :: bl m E (B) :: R) from (hM.up 2 rfl)) hx.1 (by omega) hi (by omega) (by omega)).mono (fun e w' ⟨h1_, h2_⟩ => ⟨_, h1_, ⟨(), rfl, (fun _ _ _ => by first | rfl | trivial), h2_⟩⟩)))
            · simp at hj_
          · intro i_ o_ ho_ hi_ j_ hd_ hh_ hj_ π wx hM
            simp only [fullL, Act.put, st_a, st_s, st_0]
            rcases i_ with _ | _ | _ | _ | _ | _ | _ | _ | _ | _ | _ | _ | _ | i_
            · cases so ho_
              exact gw rfl (g_move _ _ rfl ⟨rfl, hM⟩)
            · cases so ho_
              exact gw rfl (g_nil _ _ rfl ⟨rfl, hM⟩)
            · cases so ho_
              exact gw rfl (g_fa _ _ _ _ _ _ rfl (faRc3 _ _ _) ⟨rfl, hM⟩)
            · cases so ho_
              rcases j_ with _ | _ | j_
              · change Ms _ _ _ at hM
                exact gw rfl (g_ld1 88 _ (p) (38) _ rfl (ld88 _ _ _ _ ((hM.get 1 rfl).cell (38) _ (rv_38 _ _ _ _ _ _ _))) ⟨rfl, hM⟩)
              · exact absurd hh_ (by decide)
              · exact absurd hj_ (by simp)
            · cases so ho_
              exact gw rfl (g_fa _ _ _ _ _ _ rfl (faPk0 _ _ _) ⟨rfl, hM⟩)
            · cases so ho_
              rcases j_ with _ | _ | j_
              · change Ms _ _ _ at hM
                exact gw rfl (g_ld1 3 _ (w.heap.size) (0) _ rfl (ld3 _ _ _ _ ((hM.get 0 rfl).cell (0) _ (rfl))) ⟨rfl, hM⟩)
              · exact absurd hh_ (by decide)
              · exact absurd hj_ (by simp)
            · cases so ho_
              exact gw rfl (g_fa _ _ _ _ _ _ rfl (faPk2 _ _ _) ⟨rfl, hM⟩)
            · cases so ho_
              rcases j_ with _ | _ | j_
              · change Ms _ _ _ at hM
                exact gw rfl (g_ld1 9 _ (w.heap.size) (2) _ rfl (ld9 _ _ _ _ ((hM.get 0 rfl).cell (2) _ (rfl))) ⟨rfl, hM⟩)
              · change Ms _ _ _ at hM
                exact gw rfl (g_ld1 9 _ (w.heap.size) (2) _ rfl (ld9 _ _ _ _ ((hM.get 1 rfl).cell (2) _ (rfl))) ⟨rfl, hM⟩)
              · exact absurd hj_ (by simp)
            · cases so ho_
              exact gw rfl (g_fa _ _ _ _ _ _ rfl (faPk1 _ _ _) ⟨rfl, hM⟩)
            · cases so ho_
              rcases j_ with _ | _ | j_
              · change Ms _ _ _ at hM
                exact gw rfl (g_ld1 9 _ (w.heap.size) (1) _ rfl (ld9 _ _ _ _ ((hM.get 0 rfl).cell (1) _ (rfl))) ⟨rfl, hM⟩)
              · change Ms _ _ _ at hM
                exact gw rfl (g_ld1 9 _ (w.heap.size) (1) _ rfl (ld9 _ _ _ _ ((hM.get 1 rfl).cell (1) _ (rfl))) ⟨rfl, hM⟩)
              · exact absurd hj_ (by simp)
            · cases so ho_
              exact gw rfl (g_sadd 9 _ _ (g) (tx) (g ++ tx) rfl rfl rfl (by omega) ⟨rfl, hM⟩)
            · exact absurd (by decide) hi_
            · cases so ho_
              exact gw rfl (g_assign _ _ rfl ⟨rfl, hM⟩)
            · simp at ho_
          · simp only [fullL, Act.put, st_a, st_s, st_0]
            rintro ⟨⟩ w12 hM
            replace hM : Ms w0 w12 (bf q x y (bpD x y i (g ++ tx) L d) (bpL x y i (g ++ tx) L) :: blk (w.heap.size) (pkc (i) (tx) (g) (t) (kk)) 39 :: blk (p) (rcc (P) (k) (n) (mo) (.pointer (some ⟨q, 0, none⟩)) (.map (some m)) (wr)) 95 :: bl m E (B) :: R) := hM
            refine κ11 _ _ (wp_ret ?_)
            go_ret
            exact ⟨rfl, ((((hM.erase 1).up 2 rfl).up 1 rfl).up 2 rfl)⟩
  · obtain ⟨rfl, rfl⟩ : 14 = E2 ∧ (⟨P, k, n, mo, x, y, d, L, B, wr⟩ : Rc) = S2 := by have h := h.out; unfold wtg at h; rw [if_pos (by simpa using hs)] at h; cases h; exact ⟨rfl, rfl⟩
    refine wp_region_fixed (by kernel_rfl) (by kernel_rfl) [.pointer (some ⟨p, 0, none⟩), .pointer (some ⟨p, 0, none⟩), .pointer (some ⟨p, 0, none⟩), .agg (plc (P)).toArray, .pointer (some ⟨w.heap.size, 0, none⟩), .int .i64 (i), .int .i64 (la), .bool false, .bool true] (by rfl) (fun wx => Ms w0 wx (blk (w.heap.size) (pkc (i) (tx) (g) (t) (kk)) 39 :: blk (p) (rcc (P) (k) (n) (mo) (.pointer (some ⟨q, 0, none⟩)) (.map (some m)) (wr)) 95 :: bf q x y (d) (L) :: bl m E (B) :: R)) hM.drew ?_ ?_
    · simp only [fullL, Act.put, st_a, st_s, st_0]
      refine ⟨?_, ?_, ?_, ?_, ?_, ?_, ?_, ?_, ?_, trivial⟩
      · exact mvL rfl rfl
      · exact ncL rfl rfl
      · exact faL rfl rfl (fun _ => faRc0 _ _ _)
      · exact fun wx hM => gw rfl (g_load 25 _ (p) (0) 4 _ 95 _ rfl (hM.get 1 rfl) Tryz.underlying25 rfl sizeP (by rw [rcc_length]; decide) (plc (P)) (rv_plan _ _ _ _ _ _ _) ⟨rfl, hM⟩)
      · exact faL rfl rfl (fun _ => faPk0 _ _ _)
      · exact fun wx hM => gw rfl (g_ld1 3 _ (w.heap.size) (0) _ rfl (ld3 _ _ _ _ ((hM.get 0 rfl).cell (0) _ (rfl))) ⟨rfl, hM⟩)
      · exact mvL rfl rfl
      · exact fun wx hM => gw rfl (g_call 62 _ _ [.agg (plc (P)).toArray, .int .i64 (i), .int .i64 (la)] (kf62 _ _) rfl ((psafe_any P i la wx false ⟨by simpa using hs⟩).mono (fun _ _ ⟨h1_, h2_⟩ => ⟨_, h1_, rfl, hM.call h2_⟩)))
      · exact fun wx hM => gw rfl (g_unot 4 _ false rfl ⟨rfl, hM⟩)
    · simp only [fullL, Act.put, st_a, st_s, st_0]
      intro w13 hM
      refine κ4 _ _ (wp_cond_true rfl ?_)
      refine wp_seq_k fun _ κ14 => wl_region (wl_fare kn ?_)
      simp (disch := omega) only [fx, pv, kx]
      refine wl_nil (κ14 _ _ ?_)
      refine wp_ret ?_
      go_ret
      exact ⟨rfl, ((((hM.erase 0).up 2 rfl).up 2 rfl).up 2 rfl)⟩
set_option maxHeartbeats 4000000 in
theorem rat_any {w0 w : World} {R : List HP} {p q m : Nat} {P : Pl} {k : Ky} {n mo wr : Int} (hM : Ms w0 w (blk (p) (rcc (P) (k) (n) (mo) (.pointer (some ⟨q, 0, none⟩)) (.map (some m)) (wr)) 95 :: R)) : Calls Tryz.prog 21 #[.pointer (some ⟨p, 0, none⟩)] w fun e w' => e = .returned (.int .i64 n) ∧ Ms w0 w' (blk (p) (rcc (P) (k) (n) (mo) (.pointer (some ⟨q, 0, none⟩)) (.map (some m)) (wr)) 95 :: R) := by
  go_enter Tryz.func21, Tryz.ntmps21
  refine wp_seq_k fun _ κ1 => wl_region (wl_fare kn ?_)
  simp (disch := omega) only [fx, pv, kx]
  refine wl_nil (κ1 _ _ ?_)
  refine wp_seq_k fun _ κ2 => wl_region (wl_fare kn ?_)
  simp (disch := omega) only [fx, pv, kx, (hM.get 0 rfl).cell (4 + 32) (.int .i64 (n)) (rv_36 _ _ _ _ _ _ _)]
  refine wl_nil (κ2 _ _ ?_)
  refine wp_ret ?_
  go_ret
  exact ⟨rfl, hM⟩
set_option maxHeartbeats 4000000 in
theorem waits_any {w0 w : World} {R : List HP} {p q m x : Nat} {P : Pl} {k : Ky} {n mo wr y d : Int} {L B : List Thg} {E : List (Int × Nat)} (hM : Ms w0 w (blk (p) (rcc (P) (k) (n) (mo) (.pointer (some ⟨q, 0, none⟩)) (.map (some m)) (wr)) 95 :: bf q x y (d) (L) :: bl m E (B) :: R)) (hL : L.length ≤ 1000000) : Calls Tryz.prog 22 #[.pointer (some ⟨p, 0, none⟩)] w fun e w' => e = .returned (.int .i64 ((L.length : Nat) : Int)) ∧ Ms w0 w' (blk (p) (rcc (P) (k) (n) (mo) (.pointer (some ⟨q, 0, none⟩)) (.map (some m)) (wr)) 95 :: bf q x y (d) (L) :: bl m E (B) :: R) := by
  go_enter Tryz.func22, Tryz.ntmps22
  refine wp_seq_k fun _ κ1 => wl_region (wl_fare kn ?_)
  simp (disch := omega) only [fx, pv, kx]
  refine wl_nil (κ1 _ _ ?_)
  refine wp_seq_k fun _ κ2 => wl_region (wl_fare kn ?_)
  simp (disch := omega) only [fx, pv, kx, (hM.get 0 rfl).cell 38 (.pointer (some ⟨q, 0, none⟩)) (rv_38 _ _ _ _ _ _ _)]
  refine wl_give rfl (g_call 48 _ _ [.pointer (some ⟨q, 0, none⟩)] (kf48 _ _) rfl ((size_any (show Ms w0 w (bf q x y (d) (L) :: blk (p) (rcc (P) (k) (n) (mo) (.pointer (some ⟨q, 0, none⟩)) (.map (some m)) (wr)) 95 :: bl m E (B) :: R) from (hM.up 1 rfl)) hL).mono ?_))
  rintro e w3 ⟨rfl, h_⟩
  refine ⟨_, rfl, ?_⟩
  replace hM : Ms w0 w3 (bf q x y (d) (L) :: blk (p) (rcc (P) (k) (n) (mo) (.pointer (some ⟨q, 0, none⟩)) (.map (some m)) (wr)) 95 :: bl m E (B) :: R) := h_
  clear h_
  refine wl_fare kn ?_
  simp (disch := omega) only [fx, pv, kx]
  refine wl_nil (κ2 _ _ ?_)
  refine wp_ret ?_
  go_ret
  exact ⟨rfl, (((hM.up 2 rfl).up 1 rfl).up 2 rfl)⟩
set_option maxHeartbeats 4000000 in
theorem believed_any {w0 w : World} {R : List HP} {p q m x : Nat} {P : Pl} {k : Ky} {n mo wr y d : Int} {L B : List Thg} {E : List (Int × Nat)} (i : Int) (hM : Ms w0 w (blk (p) (rcc (P) (k) (n) (mo) (.pointer (some ⟨q, 0, none⟩)) (.map (some m)) (wr)) 95 :: bf q x y (d) (L) :: bl m E (B) :: R)) : Calls Tryz.prog 23 #[.pointer (some ⟨p, 0, none⟩), .int .i64 i] w fun e w' => e = .returned (.int .i64 (((ofI i B).length : Nat) : Int)) ∧ Ms w0 w' (blk (p) (rcc (P) (k) (n) (mo) (.pointer (some ⟨q, 0, none⟩)) (.map (some m)) (wr)) 95 :: bf q x y (d) (L) :: bl m E (B) :: R) := by
  go_enter Tryz.func23, Tryz.ntmps23
  refine wp_seq_k fun _ κ1 => wl_region (wl_fare kn ?_)
  simp (disch := omega) only [fx, pv, kx]
  refine wl_nil (κ1 _ _ ?_)
  refine wp_seq_k fun _ κ2 => wl_region (wl_fare kn ?_)
  simp (disch := omega) only [fx, pv, kx, (hM.get 0 rfl).cell 39 (.map (some m)) (rv_39 _ _ _ _ _ _ _)]
  refine wl_give rfl (g_bl1 _ _ (i) rfl rfl (show Ms w0 _ (bl m E (B) :: blk (p) (rcc (P) (k) (n) (mo) (.pointer (some ⟨q, 0, none⟩)) (.map (some m)) (wr)) 95 :: bf q x y (d) (L) :: R) from (hM.up 2 rfl)) ?_)
  try simp only [nz]
  refine wl_give rfl (g_bl3 _ (i) ((((ofI i B).length : Nat) : Int)) rfl (show Ms w0 _ (bl m E (B) :: blk (p) (rcc (P) (k) (n) (mo) (.pointer (some ⟨q, 0, none⟩)) (.map (some m)) (wr)) 95 :: bf q x y (d) (L) :: R) from (hM.up 2 rfl)) rfl ?_)
  refine wl_fare kn ?_
  simp (disch := omega) only [fx, pv, kx]
  refine wl_nil (κ2 _ _ ?_)
  refine wp_ret ?_
  go_ret
  exact ⟨rfl, (((hM.up 2 rfl).up 2 rfl).up 2 rfl)⟩
end Go.Proofs.YtcclcemdodoiiaaGreatDoor
