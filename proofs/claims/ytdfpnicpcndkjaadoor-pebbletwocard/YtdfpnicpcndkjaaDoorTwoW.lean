/- PebbleTwo: the walk. -/
import Derived.Test.YtdfpnicpcndkjaaDoorSlcArg
import Derived.WalkKit
import Derived.WalkSpells
import Derived.WalkLawsBesides
namespace Go.Proofs.YtdfpnicpcndkjaaDoor.pebbleTwo
set_option maxRecDepth 10000
open Go Go.RowKit
set_option linter.unusedVariables false
set_option linter.unusedSimpArgs false

set_option maxHeartbeats 4000000 in
theorem walk_a (s : Ky) (n : Int) (ao : Option Addr) (c cap : Nat) (bs : Nat → Bool) (w : World) (hbs : LV w ao c (fun j => .bool (bs j))) (hT : Tabs w) (F : Int) (k : Nat) (L : Ky) (eF : Shut (n.tmod 40 = F)) (wF : Shut (IntKind.i64.wrap F = F)) (ek : Shut (IntKind.i64.wrap (F + 1) = ((k : Nat) : Int))) (h1 : 1 ≤ k) (h2 : k ≤ 40) (hL : Shut (tg s chainW = L)) : Calls Tryd.prog 7 #[.agg (kc s).toArray, .int .u8 n, .slice ao c cap] w fun e w' => e = .returned (.bool true) ∧ Below w.heap.size w w' := by
  have h3 : k ≤ 1024 := by omega
  have hM := Ms.refl w
  go_enter Tryd.func7, Tryd.ntmps7
  refine wp_seq_k (fun K1 hK1 => ?_)
  refine wl_region ?_
  refine wl_give rfl (g_box 23 _ (kc (s)) rfl ?_)
  intro w2 t_ b_
  replace hM : Ms w w2 [blk (w.heap.size) (kc (s)) 23] := hM.new t_ b_
  clear t_ b_
  (try simp only [Act.put, List.setIfInBounds_toArray, List.set_cons_zero, List.set_cons_succ])
  refine wl_give rfl (g_assign _ (.bool false) rfl ?_)
  (try simp only [Act.put, List.setIfInBounds_toArray, List.set_cons_zero, List.set_cons_succ])
  refine wl_nil ?_
  refine hK1 _ _ ?_
  (try clear hK1 K1)
  refine wp_seq_k (fun K3 hK3 => ?_)
  refine wp_seq_k (fun K4 hK4 => ?_)
  refine wl_region ?_
  refine wl_give rfl (g_call 9 _ _ [] (kf9 _ _) rfl ((awake_any w2 (hM.tabs hT)).mono ?_))
  rintro e w5 ⟨rfl, t_⟩
  refine ⟨_, rfl, ?_⟩
  replace hM := hM.call t_
  clear t_
  (try simp only [Act.put, List.setIfInBounds_toArray, List.set_cons_zero, List.set_cons_succ])
  refine wl_give rfl (g_unot 4 _ true rfl ?_)
  (try simp only [Act.put, List.setIfInBounds_toArray, List.set_cons_zero, List.set_cons_succ])
  refine wl_nil ?_
  refine hK4 _ _ ?_
  (try clear hK4 K4)
  refine wp_cond_false rfl ?_
  refine wp_skip ?_
  refine hK3 _ _ ?_
  (try clear hK3 K3)
  refine wp_seq_k (fun K6 hK6 => ?_)
  refine wl_region ?_
  refine wl_give rfl (g_move _ (.int .u8 (n)) rfl ?_)
  (try simp only [Act.put, List.setIfInBounds_toArray, List.set_cons_zero, List.set_cons_succ])
  refine wl_give rfl (g_irem 5 _ _ .u8 (n) (40) (F) rfl rfl (by decide) eF.out ?_)
  (try simp only [Act.put, List.setIfInBounds_toArray, List.set_cons_zero, List.set_cons_succ])
  refine wl_give rfl (g_cv_5_3 _ (F) (F) rfl (wF.out) ?_)
  (try simp only [Act.put, List.setIfInBounds_toArray, List.set_cons_zero, List.set_cons_succ])
  refine wl_give rfl (g_ia 3 _ _ .i64 (F) (1) (((k : Nat) : Int)) rfl rfl ek.out ?_)
  (try simp only [Act.put, List.setIfInBounds_toArray, List.set_cons_zero, List.set_cons_succ])
  refine wl_give rfl (g_assign _ (.int .i64 (((k : Nat) : Int))) rfl ?_)
  (try simp only [Act.put, List.setIfInBounds_toArray, List.set_cons_zero, List.set_cons_succ])
  refine wl_nil ?_
  refine hK6 _ _ ?_
  (try clear hK6 K6)
  refine wp_seq_k (fun K7 hK7 => ?_)
  refine wl_region ?_
  refine wl_give rfl (g_load_all 23 _ (w.heap.size) (kc (s)) 23 _ rfl (hM.get 0 rfl) Tryd.underlying23 rfl (szK _) ?_)
  (try simp only [Act.put, List.setIfInBounds_toArray, List.set_cons_zero, List.set_cons_succ])
  refine wl_give rfl (g_move _ (.int .i64 (((k : Nat) : Int))) rfl ?_)
  (try simp only [Act.put, List.setIfInBounds_toArray, List.set_cons_zero, List.set_cons_succ])
  refine wl_give rfl (g_call 10 _ _ [.agg (kc (s)).toArray, .int .i64 (((k : Nat) : Int))] (kf10 _ _) rfl ((wnew_any s (k) L w w5 _ hM hT h1 h3 hL).mono ?_))
  rintro e w8 ⟨p9, rfl, h_⟩
  refine ⟨_, rfl, ?_⟩
  replace hM : Ms w w8 [wk p9 (k) L (0) 1, blk (w.heap.size) (kc (s)) 23] := h_
  clear h_
  (try simp only [Act.put, List.setIfInBounds_toArray, List.set_cons_zero, List.set_cons_succ])
  refine wl_give rfl (g_move _ (.tuple #[.pointer (some ⟨p9, 0, none⟩), .int .i64 (0)]) rfl ?_)
  (try simp only [Act.put, List.setIfInBounds_toArray, List.set_cons_zero, List.set_cons_succ])
  refine wl_give rfl (g_extract _ #[.pointer (some ⟨p9, 0, none⟩), .int .i64 (0)] 0 (.pointer (some ⟨p9, 0, none⟩)) rfl rfl ?_)
  (try simp only [Act.put, List.setIfInBounds_toArray, List.set_cons_zero, List.set_cons_succ])
  refine wl_give rfl (g_extract _ #[.pointer (some ⟨p9, 0, none⟩), .int .i64 (0)] 1 (.int .i64 (0)) rfl rfl ?_)
  (try simp only [Act.put, List.setIfInBounds_toArray, List.set_cons_zero, List.set_cons_succ])
  refine wl_give rfl (g_assign _ (.pointer (some ⟨p9, 0, none⟩)) rfl ?_)
  (try simp only [Act.put, List.setIfInBounds_toArray, List.set_cons_zero, List.set_cons_succ])
  refine wl_give rfl (g_assign _ (.int .i64 (0)) rfl ?_)
  (try simp only [Act.put, List.setIfInBounds_toArray, List.set_cons_zero, List.set_cons_succ])
  refine wl_nil ?_
  refine hK7 _ _ ?_
  (try clear hK7 K7)
  refine wp_seq_k (fun K10 hK10 => ?_)
  refine wl_region ?_
  refine wl_give rfl (g_load_all 23 _ (w.heap.size) (kc (s)) 23 _ rfl (hM.get 1 rfl) Tryd.underlying23 rfl (szK _) ?_)
  (try simp only [Act.put, List.setIfInBounds_toArray, List.set_cons_zero, List.set_cons_succ])
  refine wl_give rfl (g_move _ (.int .i64 (((k : Nat) : Int))) rfl ?_)
  (try simp only [Act.put, List.setIfInBounds_toArray, List.set_cons_zero, List.set_cons_succ])
  refine wl_give rfl (g_call 10 _ _ [.agg (kc (s)).toArray, .int .i64 (((k : Nat) : Int))] (kf10 _ _) rfl ((wnew_any s (k) L w w8 _ hM hT h1 h3 hL).mono ?_))
  rintro e w11 ⟨p12, rfl, h_⟩
  refine ⟨_, rfl, ?_⟩
  replace hM : Ms w w11 [wk p12 (k) L (0) 1, wk p9 (k) L (0) 1, blk (w.heap.size) (kc (s)) 23] := h_
  clear h_
  (try simp only [Act.put, List.setIfInBounds_toArray, List.set_cons_zero, List.set_cons_succ])
  refine wl_give rfl (g_move _ (.tuple #[.pointer (some ⟨p12, 0, none⟩), .int .i64 (0)]) rfl ?_)
  (try simp only [Act.put, List.setIfInBounds_toArray, List.set_cons_zero, List.set_cons_succ])
  refine wl_give rfl (g_extract _ #[.pointer (some ⟨p12, 0, none⟩), .int .i64 (0)] 0 (.pointer (some ⟨p12, 0, none⟩)) rfl rfl ?_)
  (try simp only [Act.put, List.setIfInBounds_toArray, List.set_cons_zero, List.set_cons_succ])
  refine wl_give rfl (g_extract _ #[.pointer (some ⟨p12, 0, none⟩), .int .i64 (0)] 1 (.int .i64 (0)) rfl rfl ?_)
  (try simp only [Act.put, List.setIfInBounds_toArray, List.set_cons_zero, List.set_cons_succ])
  refine wl_give rfl (g_assign _ (.pointer (some ⟨p12, 0, none⟩)) rfl ?_)
  (try simp only [Act.put, List.setIfInBounds_toArray, List.set_cons_zero, List.set_cons_succ])
  refine wl_give rfl (g_assign _ (.int .i64 (0)) rfl ?_)
  (try simp only [Act.put, List.setIfInBounds_toArray, List.set_cons_zero, List.set_cons_succ])
  refine wl_nil ?_
  refine hK10 _ _ ?_
  (try clear hK10 K10)
  refine wp_seq_k (fun K13 hK13 => ?_)
  refine wp_seq_k (fun K14 hK14 => ?_)
  refine wl_region ?_
  refine wl_give rfl (g_move _ (.pointer (some ⟨p9, 0, none⟩)) rfl ?_)
  (try simp only [Act.put, List.setIfInBounds_toArray, List.set_cons_zero, List.set_cons_succ])
  refine wl_give rfl (g_peq _ ((some ⟨p9, 0, none⟩)) false rfl rfl ?_)
  (try simp only [Act.put, List.setIfInBounds_toArray, List.set_cons_zero, List.set_cons_succ])
  refine wl_give rfl (g_move _ (.bool false) rfl ?_)
  (try simp only [Act.put, List.setIfInBounds_toArray, List.set_cons_zero, List.set_cons_succ])
  refine wl_give rfl (g_move _ (.pointer (some ⟨p12, 0, none⟩)) rfl ?_)
  (try simp only [Act.put, List.setIfInBounds_toArray, List.set_cons_zero, List.set_cons_succ])
  refine wl_give rfl (g_peq _ ((some ⟨p12, 0, none⟩)) false rfl rfl ?_)
  (try simp only [Act.put, List.setIfInBounds_toArray, List.set_cons_zero, List.set_cons_succ])
  refine wl_give rfl (g_pickf _ _ _ (.bool false) rfl rfl ?_)
  (try simp only [Act.put, List.setIfInBounds_toArray, List.set_cons_zero, List.set_cons_succ])
  refine wl_nil ?_
  refine hK14 _ _ ?_
  (try clear hK14 K14)
  refine wp_cond_false rfl ?_
  refine wp_skip ?_
  refine hK13 _ _ ?_
  (try clear hK13 K13)
  refine wp_seq_k (fun K15 hK15 => ?_)
  refine wl_region ?_
  refine wl_give rfl (g_assign _ (.slice none (0) (0)) rfl ?_)
  (try simp only [Act.put, List.setIfInBounds_toArray, List.set_cons_zero, List.set_cons_succ])
  refine wl_give rfl (g_assign _ (.slice none (0) (0)) rfl ?_)
  (try simp only [Act.put, List.setIfInBounds_toArray, List.set_cons_zero, List.set_cons_succ])
  refine wl_nil ?_
  refine hK15 _ _ ?_
  (try clear hK15 K15)
  refine wp_seq_k (fun K16 hK16 => ?_)
  refine wp_seq_k (fun K17 hK17 => ?_)
  refine wl_region ?_
  refine wl_give rfl (g_assign _ (.int .i64 (0)) rfl ?_)
  (try simp only [Act.put, List.setIfInBounds_toArray, List.set_cons_zero, List.set_cons_succ])
  refine wl_nil ?_
  refine hK17 _ _ ?_
  (try clear hK17 K17)
  refine wp_block ?_
  go_loopw [12, 13, 14] (fun x y v wr => ∃ (i a b m1 m2 : Nat), a ≤ k + 1 ∧ b ≤ k + 1 ∧ v = .int .i64 ((i : Nat) : Int) ∧ i ≤ 60 ∧ Ms w wr [wk p9 (k) L (a) m1, wk p12 (k) L (b) m2, row 23 32 (x) (a) (kl k L a), row 23 32 (y) (b) (kl k L b), blk (w.heap.size) (kc (s)) 23]) (fun _ _ v _ => (60 - intOf v).toNat)
  case atStart =>
    have h8 := row_nil (e := 23) (size := 32) (row_nil (e := 23) (size := 32) (((hM.up 2 rfl).up 1 rfl).up 2 rfl))
    exact ⟨0, 0, 0, _, _, by omega, by omega, rfl, by omega, (((h8.up 3 rfl).up 3 rfl))⟩
  case round =>
    clear hM
    obtain ⟨i, a, b, m1, m2, ha, hb, rfl, hi60, hM⟩ := hrel
    have ei : Shut (IntKind.i64.wrap (((i : Nat) : Int) + 1) = ((i + 1 : Nat) : Int)) := ⟨by rw [wrap_id _ (by omega) (by omega)]; omega⟩
    by_cases hic : ((i : Nat) : Int) < ((c : Nat) : Int)
    · by_cases hi6 : ((i : Nat) : Int) < 60
      · obtain ⟨bb, oo, rfl, hcell⟩ := (hbs.on hM) i (by omega)
        cases hv : bs i with
        | false =>
          replace hcell : wr.cell? ⟨bb, oo + i, none⟩ = some (.bool (bs i)) := hcell
          rw [hv] at hcell
          by_cases hk : b ≤ k
          · obtain ⟨X, hX0⟩ : ∃ X, Shut (wl (k - b) L = X) := ⟨_, ⟨rfl⟩⟩
            have hX : Shut (nx k L b = ((X, 0), b + 1)) := ⟨by rw [nx_ok _ _ _ hk, hX0.out]⟩
            refine wp_seq_k (fun K18 hK18 => ?_)
            refine wp_seq_k (fun K19 hK19 => ?_)
            refine wl_region ?_
            refine wl_give rfl (g_move _ (.int .i64 (((i : Nat) : Int))) rfl ?_)
            (try simp only [Act.put, List.setIfInBounds_toArray, List.set_cons_zero, List.set_cons_succ])
            refine wl_give rfl (g_move _ (.slice (some ⟨bb, oo, none⟩) (c) (cap)) rfl ?_)
            (try simp only [Act.put, List.setIfInBounds_toArray, List.set_cons_zero, List.set_cons_succ])
            refine wl_give rfl (g_len _ 44 4 (some ⟨bb, oo, none⟩) c cap (((c : Nat) : Int)) Tryd.underlying44 rfl rfl ?_)
            (try simp only [Act.put, List.setIfInBounds_toArray, List.set_cons_zero, List.set_cons_succ])
            refine wl_give rfl (g_ilss 3 _ _ .i64 (((i : Nat) : Int)) (((c : Nat) : Int)) true rfl rfl (decide_eq_true hic) ?_)
            (try simp only [Act.put, List.setIfInBounds_toArray, List.set_cons_zero, List.set_cons_succ])
            refine wl_give rfl (g_move _ (.bool true) rfl ?_)
            (try simp only [Act.put, List.setIfInBounds_toArray, List.set_cons_zero, List.set_cons_succ])
            refine wl_give rfl (g_move _ (.int .i64 (((i : Nat) : Int))) rfl ?_)
            (try simp only [Act.put, List.setIfInBounds_toArray, List.set_cons_zero, List.set_cons_succ])
            refine wl_give rfl (g_ilss 3 _ _ .i64 (((i : Nat) : Int)) (60) true rfl rfl (decide_eq_true hi6) ?_)
            (try simp only [Act.put, List.setIfInBounds_toArray, List.set_cons_zero, List.set_cons_succ])
            refine wl_give rfl (g_pickt _ _ _ (.bool true) rfl rfl ?_)
            (try simp only [Act.put, List.setIfInBounds_toArray, List.set_cons_zero, List.set_cons_succ])
            refine wl_nil ?_
            refine hK19 _ _ ?_
            (try clear hK19 K19)
            refine wp_cond_true rfl ?_
            refine wp_skip ?_
            refine hK18 _ _ ?_
            (try clear hK18 K18)
            refine wp_seq_k (fun K20 hK20 => ?_)
            refine wp_block ?_
            refine wp_seq_k (fun K21 hK21 => ?_)
            refine wl_region ?_
            refine wl_give rfl (g_move _ (.slice (some ⟨bb, oo, none⟩) (c) (cap)) rfl ?_)
            (try simp only [Act.put, List.setIfInBounds_toArray, List.set_cons_zero, List.set_cons_succ])
            refine wl_give rfl (g_move _ (.int .i64 (((i : Nat) : Int))) rfl ?_)
            (try simp only [Act.put, List.setIfInBounds_toArray, List.set_cons_zero, List.set_cons_succ])
            refine wl_give rfl (g_ix _ _ 44 4 1 Tryd.underlying44 szof4 bb oo c cap i (oo + i) _ rfl rfl rfl (by omega) (by omega) ?_)
            (try simp only [Act.put, List.setIfInBounds_toArray, List.set_cons_zero, List.set_cons_succ])
            refine wl_give rfl (g_ld1 4 _ bb (oo + i) _ rfl (ld4 _ _ _ _ hcell) ?_)
            (try simp only [Act.put, List.setIfInBounds_toArray, List.set_cons_zero, List.set_cons_succ])
            refine wl_nil ?_
            refine hK21 _ _ ?_
            (try clear hK21 K21)
            refine wp_cond_false rfl ?_
            refine wp_seq_k (fun K22 hK22 => ?_)
            refine wl_region ?_
            refine wl_give rfl (g_move _ (.pointer (some ⟨p12, 0, none⟩)) rfl ?_)
            (try simp only [Act.put, List.setIfInBounds_toArray, List.set_cons_zero, List.set_cons_succ])
            refine wl_give rfl (g_call 15 _ _ [.pointer (some ⟨p12, 0, none⟩)] (kf15 _ _) rfl ((pnext_any (show Ms w wr [wk p12 (k) L (b) m2, wk p9 (k) L (a) m1, row 23 32 (u12) (a) (kl k L a), row 23 32 (u13) (b) (kl k L b), blk (w.heap.size) (kc (s)) 23] from (hM.up 1 rfl)) hT X 0 (b + 1) hX).mono ?_))
            rintro e w23 ⟨m24, rfl, h_⟩
            refine ⟨_, rfl, ?_⟩
            replace hM : Ms w w23 [wk p12 (k) L (b + 1) m24, wk p9 (k) L (a) m1, row 23 32 (u12) (a) (kl k L a), row 23 32 (u13) (b) (kl k L b), blk (w.heap.size) (kc (s)) 23] := h_
            clear h_
            (try simp only [Act.put, List.setIfInBounds_toArray, List.set_cons_zero, List.set_cons_succ])
            refine wl_give rfl (g_move _ (.tuple #[.agg (kc (X)).toArray, .int .i64 (0)]) rfl ?_)
            (try simp only [Act.put, List.setIfInBounds_toArray, List.set_cons_zero, List.set_cons_succ])
            refine wl_give rfl (g_extract _ #[.agg (kc (X)).toArray, .int .i64 (0)] 0 (.agg (kc (X)).toArray) rfl rfl ?_)
            (try simp only [Act.put, List.setIfInBounds_toArray, List.set_cons_zero, List.set_cons_succ])
            refine wl_give rfl (g_extract _ #[.agg (kc (X)).toArray, .int .i64 (0)] 1 (.int .i64 (0)) rfl rfl ?_)
            (try simp only [Act.put, List.setIfInBounds_toArray, List.set_cons_zero, List.set_cons_succ])
            refine wl_give rfl (g_alloc 23 (kc (zk)) zeroK ?_)
            intro w25 t_ b_
            replace hM : Ms w w25 [blk (w23.heap.size) (kc (zk)) 23, wk p12 (k) L (b + 1) m24, wk p9 (k) L (a) m1, row 23 32 (u12) (a) (kl k L a), row 23 32 (u13) (b) (kl k L b), blk (w.heap.size) (kc (s)) 23] := hM.new t_ b_
            clear t_ b_
            (try simp only [Act.put, List.setIfInBounds_toArray, List.set_cons_zero, List.set_cons_succ])
            refine wl_give rfl (g_store_all 23 _ _ (w23.heap.size) (kc (X)) _ 23 rfl rfl (hM.get 0 rfl) (szK _) (kk_len _ _) (one_kc _) ?_)
            intro w26 t_ b_
            replace hM : Ms w w26 [blk (w23.heap.size) (kc (X)) 23, wk p12 (k) L (b + 1) m24, wk p9 (k) L (a) m1, row 23 32 (u12) (a) (kl k L a), row 23 32 (u13) (b) (kl k L b), blk (w.heap.size) (kc (s)) 23] := hM.put 0 rfl t_ b_
            clear t_ b_
            (try simp only [Act.put, List.setIfInBounds_toArray, List.set_cons_zero, List.set_cons_succ])
            refine wl_give rfl (g_assign _ (.int .i64 (0)) rfl ?_)
            (try simp only [Act.put, List.setIfInBounds_toArray, List.set_cons_zero, List.set_cons_succ])
            refine wl_nil ?_
            refine hK22 _ _ ?_
            (try clear hK22 K22)
            refine wp_seq_k (fun K27 hK27 => ?_)
            refine wl_region ?_
            refine wl_give rfl (g_move _ (.int .i64 (0)) rfl ?_)
            (try simp only [Act.put, List.setIfInBounds_toArray, List.set_cons_zero, List.set_cons_succ])
            refine wl_give rfl (g_ieq 27 _ _ .i64 (0) (0) true rfl rfl (by decide) ?_)
            (try simp only [Act.put, List.setIfInBounds_toArray, List.set_cons_zero, List.set_cons_succ])
            refine wl_nil ?_
            refine hK27 _ _ ?_
            (try clear hK27 K27)
            refine wp_cond_true rfl ?_
            refine wl_region ?_
            refine wl_give rfl (g_move _ (u13) rfl ?_)
            (try simp only [Act.put, List.setIfInBounds_toArray, List.set_cons_zero, List.set_cons_succ])
            refine wl_give rfl (g_load_all 23 _ (w23.heap.size) (kc (X)) 23 _ rfl (hM.get 0 rfl) Tryd.underlying23 rfl (szK _) ?_)
            (try simp only [Act.put, List.setIfInBounds_toArray, List.set_cons_zero, List.set_cons_succ])
            refine wl_give rfl (g_bsK _ (X) rfl ?_)
            intro w28 t_ b_
            replace hM : Ms w w28 [blk (w26.heap.size) (kc (X)) 23, blk (w23.heap.size) (kc (X)) 23, wk p12 (k) L (b + 1) m24, wk p9 (k) L (a) m1, row 23 32 (u12) (a) (kl k L a), row 23 32 (u13) (b) (kl k L b), blk (w.heap.size) (kc (s)) 23] := hM.new t_ b_
            clear t_ b_
            (try simp only [Act.put, List.setIfInBounds_toArray, List.set_cons_zero, List.set_cons_succ])
            refine wl_give rfl (g_apK _ _ (u13) (b) (kl k L b) (w26.heap.size) (X) rfl rfl (show Ms w w28 [row 23 32 (u13) (b) (kl k L b), blk (w26.heap.size) (kc (X)) 23, blk (w23.heap.size) (kc (X)) 23, wk p12 (k) L (b + 1) m24, wk p9 (k) L (a) m1, row 23 32 (u12) (a) (kl k L a), blk (w.heap.size) (kc (s)) 23] from (hM.up 5 rfl)) (by omega) ?_)
            intro v30 w29 h_
            replace hM : Ms w w29 [row 23 32 (v30) (b + 1) (kl k L b ++ kc (X)), blk (w26.heap.size) (kc (X)) 23, blk (w23.heap.size) (kc (X)) 23, wk p12 (k) L (b + 1) m24, wk p9 (k) L (a) m1, row 23 32 (u12) (a) (kl k L a), blk (w.heap.size) (kc (s)) 23] := h_
            clear h_
            (try simp only [Act.put, List.setIfInBounds_toArray, List.set_cons_zero, List.set_cons_succ])
            refine wl_give rfl (g_assign _ (v30) rfl ?_)
            (try simp only [Act.put, List.setIfInBounds_toArray, List.set_cons_zero, List.set_cons_succ])
            refine wl_nil ?_
            refine hK20 _ _ ?_
            (try clear hK20 K20)
            refine wl_region ?_
            refine wl_give rfl (g_move _ (.int .i64 (((i : Nat) : Int))) rfl ?_)
            (try simp only [Act.put, List.setIfInBounds_toArray, List.set_cons_zero, List.set_cons_succ])
            refine wl_give rfl (g_ia 3 _ _ .i64 (((i : Nat) : Int)) (1) (((i + 1 : Nat) : Int)) rfl rfl ei.out ?_)
            (try simp only [Act.put, List.setIfInBounds_toArray, List.set_cons_zero, List.set_cons_succ])
            refine wl_give rfl (g_assign _ (.int .i64 (((i + 1 : Nat) : Int))) rfl ?_)
            (try simp only [Act.put, List.setIfInBounds_toArray, List.set_cons_zero, List.set_cons_succ])
            refine wl_nil ?_
            have h9 : Ms w w29 [wk p9 (k) L (a) m1, wk p12 (k) L (b + 1) m24, row 23 32 (u12) (a) (kl k L a), row 23 32 (v30) (b + 1) (kl k L b ++ kc (X)), blk (w.heap.size) (kc (s)) 23] := (((((((hM.erase 1).erase 1).up 4 rfl).up 1 rfl).up 4 rfl).up 3 rfl).up 4 rfl)
            rw [← hX0.out, ← kl_succ] at h9
            (try simp only [Exit.then, Exit.inBlock, ↓reduceIte, Nat.reduceEqDiff])
            go_roundw
            case rel => exact ⟨i + 1, _, _, _, _, by omega, by omega, rfl, by omega, h9⟩
            case measure => simp [intOf]; omega
          · have hX : Shut (nx k L b = ((zk, 10), b)) := ⟨nx_end _ _ _ (by omega)⟩
            refine wp_seq_k (fun K31 hK31 => ?_)
            refine wp_seq_k (fun K32 hK32 => ?_)
            refine wl_region ?_
            refine wl_give rfl (g_move _ (.int .i64 (((i : Nat) : Int))) rfl ?_)
            (try simp only [Act.put, List.setIfInBounds_toArray, List.set_cons_zero, List.set_cons_succ])
            refine wl_give rfl (g_move _ (.slice (some ⟨bb, oo, none⟩) (c) (cap)) rfl ?_)
            (try simp only [Act.put, List.setIfInBounds_toArray, List.set_cons_zero, List.set_cons_succ])
            refine wl_give rfl (g_len _ 44 4 (some ⟨bb, oo, none⟩) c cap (((c : Nat) : Int)) Tryd.underlying44 rfl rfl ?_)
            (try simp only [Act.put, List.setIfInBounds_toArray, List.set_cons_zero, List.set_cons_succ])
            refine wl_give rfl (g_ilss 3 _ _ .i64 (((i : Nat) : Int)) (((c : Nat) : Int)) true rfl rfl (decide_eq_true hic) ?_)
            (try simp only [Act.put, List.setIfInBounds_toArray, List.set_cons_zero, List.set_cons_succ])
            refine wl_give rfl (g_move _ (.bool true) rfl ?_)
            (try simp only [Act.put, List.setIfInBounds_toArray, List.set_cons_zero, List.set_cons_succ])
            refine wl_give rfl (g_move _ (.int .i64 (((i : Nat) : Int))) rfl ?_)
            (try simp only [Act.put, List.setIfInBounds_toArray, List.set_cons_zero, List.set_cons_succ])
            refine wl_give rfl (g_ilss 3 _ _ .i64 (((i : Nat) : Int)) (60) true rfl rfl (decide_eq_true hi6) ?_)
            (try simp only [Act.put, List.setIfInBounds_toArray, List.set_cons_zero, List.set_cons_succ])
            refine wl_give rfl (g_pickt _ _ _ (.bool true) rfl rfl ?_)
            (try simp only [Act.put, List.setIfInBounds_toArray, List.set_cons_zero, List.set_cons_succ])
            refine wl_nil ?_
            refine hK32 _ _ ?_
            (try clear hK32 K32)
            refine wp_cond_true rfl ?_
            refine wp_skip ?_
            refine hK31 _ _ ?_
            (try clear hK31 K31)
            refine wp_seq_k (fun K33 hK33 => ?_)
            refine wp_block ?_
            refine wp_seq_k (fun K34 hK34 => ?_)
            refine wl_region ?_
            refine wl_give rfl (g_move _ (.slice (some ⟨bb, oo, none⟩) (c) (cap)) rfl ?_)
            (try simp only [Act.put, List.setIfInBounds_toArray, List.set_cons_zero, List.set_cons_succ])
            refine wl_give rfl (g_move _ (.int .i64 (((i : Nat) : Int))) rfl ?_)
            (try simp only [Act.put, List.setIfInBounds_toArray, List.set_cons_zero, List.set_cons_succ])
            refine wl_give rfl (g_ix _ _ 44 4 1 Tryd.underlying44 szof4 bb oo c cap i (oo + i) _ rfl rfl rfl (by omega) (by omega) ?_)
            (try simp only [Act.put, List.setIfInBounds_toArray, List.set_cons_zero, List.set_cons_succ])
            refine wl_give rfl (g_ld1 4 _ bb (oo + i) _ rfl (ld4 _ _ _ _ hcell) ?_)
            (try simp only [Act.put, List.setIfInBounds_toArray, List.set_cons_zero, List.set_cons_succ])
            refine wl_nil ?_
            refine hK34 _ _ ?_
            (try clear hK34 K34)
            refine wp_cond_false rfl ?_
            refine wp_seq_k (fun K35 hK35 => ?_)
            refine wl_region ?_
            refine wl_give rfl (g_move _ (.pointer (some ⟨p12, 0, none⟩)) rfl ?_)
            (try simp only [Act.put, List.setIfInBounds_toArray, List.set_cons_zero, List.set_cons_succ])
            refine wl_give rfl (g_call 15 _ _ [.pointer (some ⟨p12, 0, none⟩)] (kf15 _ _) rfl ((pnext_any (show Ms w wr [wk p12 (k) L (b) m2, wk p9 (k) L (a) m1, row 23 32 (u12) (a) (kl k L a), row 23 32 (u13) (b) (kl k L b), blk (w.heap.size) (kc (s)) 23] from (hM.up 1 rfl)) hT zk 10 (b) hX).mono ?_))
            rintro e w36 ⟨m37, rfl, h_⟩
            refine ⟨_, rfl, ?_⟩
            replace hM : Ms w w36 [wk p12 (k) L (b) m37, wk p9 (k) L (a) m1, row 23 32 (u12) (a) (kl k L a), row 23 32 (u13) (b) (kl k L b), blk (w.heap.size) (kc (s)) 23] := h_
            clear h_
            (try simp only [Act.put, List.setIfInBounds_toArray, List.set_cons_zero, List.set_cons_succ])
            refine wl_give rfl (g_move _ (.tuple #[.agg (kc (zk)).toArray, .int .i64 (10)]) rfl ?_)
            (try simp only [Act.put, List.setIfInBounds_toArray, List.set_cons_zero, List.set_cons_succ])
            refine wl_give rfl (g_extract _ #[.agg (kc (zk)).toArray, .int .i64 (10)] 0 (.agg (kc (zk)).toArray) rfl rfl ?_)
            (try simp only [Act.put, List.setIfInBounds_toArray, List.set_cons_zero, List.set_cons_succ])
            refine wl_give rfl (g_extract _ #[.agg (kc (zk)).toArray, .int .i64 (10)] 1 (.int .i64 (10)) rfl rfl ?_)
            (try simp only [Act.put, List.setIfInBounds_toArray, List.set_cons_zero, List.set_cons_succ])
            refine wl_give rfl (g_alloc 23 (kc (zk)) zeroK ?_)
            intro w38 t_ b_
            replace hM : Ms w w38 [blk (w36.heap.size) (kc (zk)) 23, wk p12 (k) L (b) m37, wk p9 (k) L (a) m1, row 23 32 (u12) (a) (kl k L a), row 23 32 (u13) (b) (kl k L b), blk (w.heap.size) (kc (s)) 23] := hM.new t_ b_
            clear t_ b_
            (try simp only [Act.put, List.setIfInBounds_toArray, List.set_cons_zero, List.set_cons_succ])
            refine wl_give rfl (g_store_all 23 _ _ (w36.heap.size) (kc (zk)) _ 23 rfl rfl (hM.get 0 rfl) (szK _) (kk_len _ _) (one_kc _) ?_)
            intro w39 t_ b_
            replace hM : Ms w w39 [blk (w36.heap.size) (kc (zk)) 23, wk p12 (k) L (b) m37, wk p9 (k) L (a) m1, row 23 32 (u12) (a) (kl k L a), row 23 32 (u13) (b) (kl k L b), blk (w.heap.size) (kc (s)) 23] := hM.put 0 rfl t_ b_
            clear t_ b_
            (try simp only [Act.put, List.setIfInBounds_toArray, List.set_cons_zero, List.set_cons_succ])
            refine wl_give rfl (g_assign _ (.int .i64 (10)) rfl ?_)
            (try simp only [Act.put, List.setIfInBounds_toArray, List.set_cons_zero, List.set_cons_succ])
            refine wl_nil ?_
            refine hK35 _ _ ?_
            (try clear hK35 K35)
            refine wp_seq_k (fun K40 hK40 => ?_)
            refine wl_region ?_
            refine wl_give rfl (g_move _ (.int .i64 (10)) rfl ?_)
            (try simp only [Act.put, List.setIfInBounds_toArray, List.set_cons_zero, List.set_cons_succ])
            refine wl_give rfl (g_ieq 27 _ _ .i64 (10) (0) false rfl rfl (by decide) ?_)
            (try simp only [Act.put, List.setIfInBounds_toArray, List.set_cons_zero, List.set_cons_succ])
            refine wl_nil ?_
            refine hK40 _ _ ?_
            (try clear hK40 K40)
            refine wp_cond_false rfl ?_
            refine wp_skip ?_
            refine hK33 _ _ ?_
            (try clear hK33 K33)
            refine wl_region ?_
            refine wl_give rfl (g_move _ (.int .i64 (((i : Nat) : Int))) rfl ?_)
            (try simp only [Act.put, List.setIfInBounds_toArray, List.set_cons_zero, List.set_cons_succ])
            refine wl_give rfl (g_ia 3 _ _ .i64 (((i : Nat) : Int)) (1) (((i + 1 : Nat) : Int)) rfl rfl ei.out ?_)
            (try simp only [Act.put, List.setIfInBounds_toArray, List.set_cons_zero, List.set_cons_succ])
            refine wl_give rfl (g_assign _ (.int .i64 (((i + 1 : Nat) : Int))) rfl ?_)
            (try simp only [Act.put, List.setIfInBounds_toArray, List.set_cons_zero, List.set_cons_succ])
            refine wl_nil ?_
            have h9 : Ms w w39 [wk p9 (k) L (a) m1, wk p12 (k) L (b) m37, row 23 32 (u12) (a) (kl k L a), row 23 32 (u13) (b) (kl k L b), blk (w.heap.size) (kc (s)) 23] := ((((((hM.erase 0).up 4 rfl).up 4 rfl).up 4 rfl).up 3 rfl).up 4 rfl)
            (try simp only [Exit.then, Exit.inBlock, ↓reduceIte, Nat.reduceEqDiff])
            go_roundw
            case rel => exact ⟨i + 1, _, _, _, _, by omega, by omega, rfl, by omega, h9⟩
            case measure => simp [intOf]; omega
        | true =>
          replace hcell : wr.cell? ⟨bb, oo + i, none⟩ = some (.bool (bs i)) := hcell
          rw [hv] at hcell
          by_cases hk : a ≤ k
          · obtain ⟨X, hX0⟩ : ∃ X, Shut (wl (k - a) L = X) := ⟨_, ⟨rfl⟩⟩
            have hX : Shut (nx k L a = ((X, 0), a + 1)) := ⟨by rw [nx_ok _ _ _ hk, hX0.out]⟩
            refine wp_seq_k (fun K41 hK41 => ?_)
            refine wp_seq_k (fun K42 hK42 => ?_)
            refine wl_region ?_
            refine wl_give rfl (g_move _ (.int .i64 (((i : Nat) : Int))) rfl ?_)
            (try simp only [Act.put, List.setIfInBounds_toArray, List.set_cons_zero, List.set_cons_succ])
            refine wl_give rfl (g_move _ (.slice (some ⟨bb, oo, none⟩) (c) (cap)) rfl ?_)
            (try simp only [Act.put, List.setIfInBounds_toArray, List.set_cons_zero, List.set_cons_succ])
            refine wl_give rfl (g_len _ 44 4 (some ⟨bb, oo, none⟩) c cap (((c : Nat) : Int)) Tryd.underlying44 rfl rfl ?_)
            (try simp only [Act.put, List.setIfInBounds_toArray, List.set_cons_zero, List.set_cons_succ])
            refine wl_give rfl (g_ilss 3 _ _ .i64 (((i : Nat) : Int)) (((c : Nat) : Int)) true rfl rfl (decide_eq_true hic) ?_)
            (try simp only [Act.put, List.setIfInBounds_toArray, List.set_cons_zero, List.set_cons_succ])
            refine wl_give rfl (g_move _ (.bool true) rfl ?_)
            (try simp only [Act.put, List.setIfInBounds_toArray, List.set_cons_zero, List.set_cons_succ])
            refine wl_give rfl (g_move _ (.int .i64 (((i : Nat) : Int))) rfl ?_)
            (try simp only [Act.put, List.setIfInBounds_toArray, List.set_cons_zero, List.set_cons_succ])
            refine wl_give rfl (g_ilss 3 _ _ .i64 (((i : Nat) : Int)) (60) true rfl rfl (decide_eq_true hi6) ?_)
            (try simp only [Act.put, List.setIfInBounds_toArray, List.set_cons_zero, List.set_cons_succ])
            refine wl_give rfl (g_pickt _ _ _ (.bool true) rfl rfl ?_)
            (try simp only [Act.put, List.setIfInBounds_toArray, List.set_cons_zero, List.set_cons_succ])
            refine wl_nil ?_
            refine hK42 _ _ ?_
            (try clear hK42 K42)
            refine wp_cond_true rfl ?_
            refine wp_skip ?_
            refine hK41 _ _ ?_
            (try clear hK41 K41)
            refine wp_seq_k (fun K43 hK43 => ?_)
            refine wp_block ?_
            refine wp_seq_k (fun K44 hK44 => ?_)
            refine wl_region ?_
            refine wl_give rfl (g_move _ (.slice (some ⟨bb, oo, none⟩) (c) (cap)) rfl ?_)
            (try simp only [Act.put, List.setIfInBounds_toArray, List.set_cons_zero, List.set_cons_succ])
            refine wl_give rfl (g_move _ (.int .i64 (((i : Nat) : Int))) rfl ?_)
            (try simp only [Act.put, List.setIfInBounds_toArray, List.set_cons_zero, List.set_cons_succ])
            refine wl_give rfl (g_ix _ _ 44 4 1 Tryd.underlying44 szof4 bb oo c cap i (oo + i) _ rfl rfl rfl (by omega) (by omega) ?_)
            (try simp only [Act.put, List.setIfInBounds_toArray, List.set_cons_zero, List.set_cons_succ])
            refine wl_give rfl (g_ld1 4 _ bb (oo + i) _ rfl (ld4 _ _ _ _ hcell) ?_)
            (try simp only [Act.put, List.setIfInBounds_toArray, List.set_cons_zero, List.set_cons_succ])
            refine wl_nil ?_
            refine hK44 _ _ ?_
            (try clear hK44 K44)
            refine wp_cond_true rfl ?_
            refine wp_seq_k (fun K45 hK45 => ?_)
            refine wl_region ?_
            refine wl_give rfl (g_move _ (.pointer (some ⟨p9, 0, none⟩)) rfl ?_)
            (try simp only [Act.put, List.setIfInBounds_toArray, List.set_cons_zero, List.set_cons_succ])
            refine wl_give rfl (g_call 15 _ _ [.pointer (some ⟨p9, 0, none⟩)] (kf15 _ _) rfl ((pnext_any hM hT X 0 (a + 1) hX).mono ?_))
            rintro e w46 ⟨m47, rfl, h_⟩
            refine ⟨_, rfl, ?_⟩
            replace hM : Ms w w46 [wk p9 (k) L (a + 1) m47, wk p12 (k) L (b) m2, row 23 32 (u12) (a) (kl k L a), row 23 32 (u13) (b) (kl k L b), blk (w.heap.size) (kc (s)) 23] := h_
            clear h_
            (try simp only [Act.put, List.setIfInBounds_toArray, List.set_cons_zero, List.set_cons_succ])
            refine wl_give rfl (g_move _ (.tuple #[.agg (kc (X)).toArray, .int .i64 (0)]) rfl ?_)
            (try simp only [Act.put, List.setIfInBounds_toArray, List.set_cons_zero, List.set_cons_succ])
            refine wl_give rfl (g_extract _ #[.agg (kc (X)).toArray, .int .i64 (0)] 0 (.agg (kc (X)).toArray) rfl rfl ?_)
            (try simp only [Act.put, List.setIfInBounds_toArray, List.set_cons_zero, List.set_cons_succ])
            refine wl_give rfl (g_extract _ #[.agg (kc (X)).toArray, .int .i64 (0)] 1 (.int .i64 (0)) rfl rfl ?_)
            (try simp only [Act.put, List.setIfInBounds_toArray, List.set_cons_zero, List.set_cons_succ])
            refine wl_give rfl (g_alloc 23 (kc (zk)) zeroK ?_)
            intro w48 t_ b_
            replace hM : Ms w w48 [blk (w46.heap.size) (kc (zk)) 23, wk p9 (k) L (a + 1) m47, wk p12 (k) L (b) m2, row 23 32 (u12) (a) (kl k L a), row 23 32 (u13) (b) (kl k L b), blk (w.heap.size) (kc (s)) 23] := hM.new t_ b_
            clear t_ b_
            (try simp only [Act.put, List.setIfInBounds_toArray, List.set_cons_zero, List.set_cons_succ])
            refine wl_give rfl (g_store_all 23 _ _ (w46.heap.size) (kc (X)) _ 23 rfl rfl (hM.get 0 rfl) (szK _) (kk_len _ _) (one_kc _) ?_)
            intro w49 t_ b_
            replace hM : Ms w w49 [blk (w46.heap.size) (kc (X)) 23, wk p9 (k) L (a + 1) m47, wk p12 (k) L (b) m2, row 23 32 (u12) (a) (kl k L a), row 23 32 (u13) (b) (kl k L b), blk (w.heap.size) (kc (s)) 23] := hM.put 0 rfl t_ b_
            clear t_ b_
            (try simp only [Act.put, List.setIfInBounds_toArray, List.set_cons_zero, List.set_cons_succ])
            refine wl_give rfl (g_assign _ (.int .i64 (0)) rfl ?_)
            (try simp only [Act.put, List.setIfInBounds_toArray, List.set_cons_zero, List.set_cons_succ])
            refine wl_nil ?_
            refine hK45 _ _ ?_
            (try clear hK45 K45)
            refine wp_seq_k (fun K50 hK50 => ?_)
            refine wl_region ?_
            refine wl_give rfl (g_move _ (.int .i64 (0)) rfl ?_)
            (try simp only [Act.put, List.setIfInBounds_toArray, List.set_cons_zero, List.set_cons_succ])
            refine wl_give rfl (g_ieq 27 _ _ .i64 (0) (0) true rfl rfl (by decide) ?_)
            (try simp only [Act.put, List.setIfInBounds_toArray, List.set_cons_zero, List.set_cons_succ])
            refine wl_nil ?_
            refine hK50 _ _ ?_
            (try clear hK50 K50)
            refine wp_cond_true rfl ?_
            refine wl_region ?_
            refine wl_give rfl (g_move _ (u12) rfl ?_)
            (try simp only [Act.put, List.setIfInBounds_toArray, List.set_cons_zero, List.set_cons_succ])
            refine wl_give rfl (g_load_all 23 _ (w46.heap.size) (kc (X)) 23 _ rfl (hM.get 0 rfl) Tryd.underlying23 rfl (szK _) ?_)
            (try simp only [Act.put, List.setIfInBounds_toArray, List.set_cons_zero, List.set_cons_succ])
            refine wl_give rfl (g_bsK _ (X) rfl ?_)
            intro w51 t_ b_
            replace hM : Ms w w51 [blk (w49.heap.size) (kc (X)) 23, blk (w46.heap.size) (kc (X)) 23, wk p9 (k) L (a + 1) m47, wk p12 (k) L (b) m2, row 23 32 (u12) (a) (kl k L a), row 23 32 (u13) (b) (kl k L b), blk (w.heap.size) (kc (s)) 23] := hM.new t_ b_
            clear t_ b_
            (try simp only [Act.put, List.setIfInBounds_toArray, List.set_cons_zero, List.set_cons_succ])
            refine wl_give rfl (g_apK _ _ (u12) (a) (kl k L a) (w49.heap.size) (X) rfl rfl (show Ms w w51 [row 23 32 (u12) (a) (kl k L a), blk (w49.heap.size) (kc (X)) 23, blk (w46.heap.size) (kc (X)) 23, wk p9 (k) L (a + 1) m47, wk p12 (k) L (b) m2, row 23 32 (u13) (b) (kl k L b), blk (w.heap.size) (kc (s)) 23] from (hM.up 4 rfl)) (by omega) ?_)
            intro v53 w52 h_
            replace hM : Ms w w52 [row 23 32 (v53) (a + 1) (kl k L a ++ kc (X)), blk (w49.heap.size) (kc (X)) 23, blk (w46.heap.size) (kc (X)) 23, wk p9 (k) L (a + 1) m47, wk p12 (k) L (b) m2, row 23 32 (u13) (b) (kl k L b), blk (w.heap.size) (kc (s)) 23] := h_
            clear h_
            (try simp only [Act.put, List.setIfInBounds_toArray, List.set_cons_zero, List.set_cons_succ])
            refine wl_give rfl (g_assign _ (v53) rfl ?_)
            (try simp only [Act.put, List.setIfInBounds_toArray, List.set_cons_zero, List.set_cons_succ])
            refine wl_nil ?_
            refine hK43 _ _ ?_
            (try clear hK43 K43)
            refine wl_region ?_
            refine wl_give rfl (g_move _ (.int .i64 (((i : Nat) : Int))) rfl ?_)
            (try simp only [Act.put, List.setIfInBounds_toArray, List.set_cons_zero, List.set_cons_succ])
            refine wl_give rfl (g_ia 3 _ _ .i64 (((i : Nat) : Int)) (1) (((i + 1 : Nat) : Int)) rfl rfl ei.out ?_)
            (try simp only [Act.put, List.setIfInBounds_toArray, List.set_cons_zero, List.set_cons_succ])
            refine wl_give rfl (g_assign _ (.int .i64 (((i + 1 : Nat) : Int))) rfl ?_)
            (try simp only [Act.put, List.setIfInBounds_toArray, List.set_cons_zero, List.set_cons_succ])
            refine wl_nil ?_
            have h9 : Ms w w52 [wk p9 (k) L (a + 1) m47, wk p12 (k) L (b) m2, row 23 32 (v53) (a + 1) (kl k L a ++ kc (X)), row 23 32 (u13) (b) (kl k L b), blk (w.heap.size) (kc (s)) 23] := (((((((hM.erase 1).erase 1).up 4 rfl).up 4 rfl).up 2 rfl).up 4 rfl).up 4 rfl)
            rw [← hX0.out, ← kl_succ] at h9
            (try simp only [Exit.then, Exit.inBlock, ↓reduceIte, Nat.reduceEqDiff])
            go_roundw
            case rel => exact ⟨i + 1, _, _, _, _, by omega, by omega, rfl, by omega, h9⟩
            case measure => simp [intOf]; omega
          · have hX : Shut (nx k L a = ((zk, 10), a)) := ⟨nx_end _ _ _ (by omega)⟩
            refine wp_seq_k (fun K54 hK54 => ?_)
            refine wp_seq_k (fun K55 hK55 => ?_)
            refine wl_region ?_
            refine wl_give rfl (g_move _ (.int .i64 (((i : Nat) : Int))) rfl ?_)
            (try simp only [Act.put, List.setIfInBounds_toArray, List.set_cons_zero, List.set_cons_succ])
            refine wl_give rfl (g_move _ (.slice (some ⟨bb, oo, none⟩) (c) (cap)) rfl ?_)
            (try simp only [Act.put, List.setIfInBounds_toArray, List.set_cons_zero, List.set_cons_succ])
            refine wl_give rfl (g_len _ 44 4 (some ⟨bb, oo, none⟩) c cap (((c : Nat) : Int)) Tryd.underlying44 rfl rfl ?_)
            (try simp only [Act.put, List.setIfInBounds_toArray, List.set_cons_zero, List.set_cons_succ])
            refine wl_give rfl (g_ilss 3 _ _ .i64 (((i : Nat) : Int)) (((c : Nat) : Int)) true rfl rfl (decide_eq_true hic) ?_)
            (try simp only [Act.put, List.setIfInBounds_toArray, List.set_cons_zero, List.set_cons_succ])
            refine wl_give rfl (g_move _ (.bool true) rfl ?_)
            (try simp only [Act.put, List.setIfInBounds_toArray, List.set_cons_zero, List.set_cons_succ])
            refine wl_give rfl (g_move _ (.int .i64 (((i : Nat) : Int))) rfl ?_)
            (try simp only [Act.put, List.setIfInBounds_toArray, List.set_cons_zero, List.set_cons_succ])
            refine wl_give rfl (g_ilss 3 _ _ .i64 (((i : Nat) : Int)) (60) true rfl rfl (decide_eq_true hi6) ?_)
            (try simp only [Act.put, List.setIfInBounds_toArray, List.set_cons_zero, List.set_cons_succ])
            refine wl_give rfl (g_pickt _ _ _ (.bool true) rfl rfl ?_)
            (try simp only [Act.put, List.setIfInBounds_toArray, List.set_cons_zero, List.set_cons_succ])
            refine wl_nil ?_
            refine hK55 _ _ ?_
            (try clear hK55 K55)
            refine wp_cond_true rfl ?_
            refine wp_skip ?_
            refine hK54 _ _ ?_
            (try clear hK54 K54)
            refine wp_seq_k (fun K56 hK56 => ?_)
            refine wp_block ?_
            refine wp_seq_k (fun K57 hK57 => ?_)
            refine wl_region ?_
            refine wl_give rfl (g_move _ (.slice (some ⟨bb, oo, none⟩) (c) (cap)) rfl ?_)
            (try simp only [Act.put, List.setIfInBounds_toArray, List.set_cons_zero, List.set_cons_succ])
            refine wl_give rfl (g_move _ (.int .i64 (((i : Nat) : Int))) rfl ?_)
            (try simp only [Act.put, List.setIfInBounds_toArray, List.set_cons_zero, List.set_cons_succ])
            refine wl_give rfl (g_ix _ _ 44 4 1 Tryd.underlying44 szof4 bb oo c cap i (oo + i) _ rfl rfl rfl (by omega) (by omega) ?_)
            (try simp only [Act.put, List.setIfInBounds_toArray, List.set_cons_zero, List.set_cons_succ])
            refine wl_give rfl (g_ld1 4 _ bb (oo + i) _ rfl (ld4 _ _ _ _ hcell) ?_)
            (try simp only [Act.put, List.setIfInBounds_toArray, List.set_cons_zero, List.set_cons_succ])
            refine wl_nil ?_
            refine hK57 _ _ ?_
            (try clear hK57 K57)
            refine wp_cond_true rfl ?_
            refine wp_seq_k (fun K58 hK58 => ?_)
            refine wl_region ?_
            refine wl_give rfl (g_move _ (.pointer (some ⟨p9, 0, none⟩)) rfl ?_)
            (try simp only [Act.put, List.setIfInBounds_toArray, List.set_cons_zero, List.set_cons_succ])
            refine wl_give rfl (g_call 15 _ _ [.pointer (some ⟨p9, 0, none⟩)] (kf15 _ _) rfl ((pnext_any hM hT zk 10 (a) hX).mono ?_))
            rintro e w59 ⟨m60, rfl, h_⟩
            refine ⟨_, rfl, ?_⟩
            replace hM : Ms w w59 [wk p9 (k) L (a) m60, wk p12 (k) L (b) m2, row 23 32 (u12) (a) (kl k L a), row 23 32 (u13) (b) (kl k L b), blk (w.heap.size) (kc (s)) 23] := h_
            clear h_
            (try simp only [Act.put, List.setIfInBounds_toArray, List.set_cons_zero, List.set_cons_succ])
            refine wl_give rfl (g_move _ (.tuple #[.agg (kc (zk)).toArray, .int .i64 (10)]) rfl ?_)
            (try simp only [Act.put, List.setIfInBounds_toArray, List.set_cons_zero, List.set_cons_succ])
            refine wl_give rfl (g_extract _ #[.agg (kc (zk)).toArray, .int .i64 (10)] 0 (.agg (kc (zk)).toArray) rfl rfl ?_)
            (try simp only [Act.put, List.setIfInBounds_toArray, List.set_cons_zero, List.set_cons_succ])
            refine wl_give rfl (g_extract _ #[.agg (kc (zk)).toArray, .int .i64 (10)] 1 (.int .i64 (10)) rfl rfl ?_)
            (try simp only [Act.put, List.setIfInBounds_toArray, List.set_cons_zero, List.set_cons_succ])
            refine wl_give rfl (g_alloc 23 (kc (zk)) zeroK ?_)
            intro w61 t_ b_
            replace hM : Ms w w61 [blk (w59.heap.size) (kc (zk)) 23, wk p9 (k) L (a) m60, wk p12 (k) L (b) m2, row 23 32 (u12) (a) (kl k L a), row 23 32 (u13) (b) (kl k L b), blk (w.heap.size) (kc (s)) 23] := hM.new t_ b_
            clear t_ b_
            (try simp only [Act.put, List.setIfInBounds_toArray, List.set_cons_zero, List.set_cons_succ])
            refine wl_give rfl (g_store_all 23 _ _ (w59.heap.size) (kc (zk)) _ 23 rfl rfl (hM.get 0 rfl) (szK _) (kk_len _ _) (one_kc _) ?_)
            intro w62 t_ b_
            replace hM : Ms w w62 [blk (w59.heap.size) (kc (zk)) 23, wk p9 (k) L (a) m60, wk p12 (k) L (b) m2, row 23 32 (u12) (a) (kl k L a), row 23 32 (u13) (b) (kl k L b), blk (w.heap.size) (kc (s)) 23] := hM.put 0 rfl t_ b_
            clear t_ b_
            (try simp only [Act.put, List.setIfInBounds_toArray, List.set_cons_zero, List.set_cons_succ])
            refine wl_give rfl (g_assign _ (.int .i64 (10)) rfl ?_)
            (try simp only [Act.put, List.setIfInBounds_toArray, List.set_cons_zero, List.set_cons_succ])
            refine wl_nil ?_
            refine hK58 _ _ ?_
            (try clear hK58 K58)
            refine wp_seq_k (fun K63 hK63 => ?_)
            refine wl_region ?_
            refine wl_give rfl (g_move _ (.int .i64 (10)) rfl ?_)
            (try simp only [Act.put, List.setIfInBounds_toArray, List.set_cons_zero, List.set_cons_succ])
            refine wl_give rfl (g_ieq 27 _ _ .i64 (10) (0) false rfl rfl (by decide) ?_)
            (try simp only [Act.put, List.setIfInBounds_toArray, List.set_cons_zero, List.set_cons_succ])
            refine wl_nil ?_
            refine hK63 _ _ ?_
            (try clear hK63 K63)
            refine wp_cond_false rfl ?_
            refine wp_skip ?_
            refine hK56 _ _ ?_
            (try clear hK56 K56)
            refine wl_region ?_
            refine wl_give rfl (g_move _ (.int .i64 (((i : Nat) : Int))) rfl ?_)
            (try simp only [Act.put, List.setIfInBounds_toArray, List.set_cons_zero, List.set_cons_succ])
            refine wl_give rfl (g_ia 3 _ _ .i64 (((i : Nat) : Int)) (1) (((i + 1 : Nat) : Int)) rfl rfl ei.out ?_)
            (try simp only [Act.put, List.setIfInBounds_toArray, List.set_cons_zero, List.set_cons_succ])
            refine wl_give rfl (g_assign _ (.int .i64 (((i + 1 : Nat) : Int))) rfl ?_)
            (try simp only [Act.put, List.setIfInBounds_toArray, List.set_cons_zero, List.set_cons_succ])
            refine wl_nil ?_
            have h9 : Ms w w62 [wk p9 (k) L (a) m60, wk p12 (k) L (b) m2, row 23 32 (u12) (a) (kl k L a), row 23 32 (u13) (b) (kl k L b), blk (w.heap.size) (kc (s)) 23] := ((((((hM.erase 0).up 4 rfl).up 4 rfl).up 4 rfl).up 4 rfl).up 4 rfl)
            (try simp only [Exit.then, Exit.inBlock, ↓reduceIte, Nat.reduceEqDiff])
            go_roundw
            case rel => exact ⟨i + 1, _, _, _, _, by omega, by omega, rfl, by omega, h9⟩
            case measure => simp [intOf]; omega
      · skip
        refine wp_seq_k (fun K64 hK64 => ?_)
        refine wp_seq_k (fun K65 hK65 => ?_)
        refine wl_region ?_
        refine wl_give rfl (g_move _ (.int .i64 (((i : Nat) : Int))) rfl ?_)
        (try simp only [Act.put, List.setIfInBounds_toArray, List.set_cons_zero, List.set_cons_succ])
        refine wl_give rfl (g_move _ (.slice ao (c) (cap)) rfl ?_)
        (try simp only [Act.put, List.setIfInBounds_toArray, List.set_cons_zero, List.set_cons_succ])
        refine wl_give rfl (g_len _ 44 4 _ c cap (((c : Nat) : Int)) Tryd.underlying44 rfl rfl ?_)
        (try simp only [Act.put, List.setIfInBounds_toArray, List.set_cons_zero, List.set_cons_succ])
        refine wl_give rfl (g_ilss 3 _ _ .i64 (((i : Nat) : Int)) (((c : Nat) : Int)) true rfl rfl (decide_eq_true hic) ?_)
        (try simp only [Act.put, List.setIfInBounds_toArray, List.set_cons_zero, List.set_cons_succ])
        refine wl_give rfl (g_move _ (.bool true) rfl ?_)
        (try simp only [Act.put, List.setIfInBounds_toArray, List.set_cons_zero, List.set_cons_succ])
        refine wl_give rfl (g_move _ (.int .i64 (((i : Nat) : Int))) rfl ?_)
        (try simp only [Act.put, List.setIfInBounds_toArray, List.set_cons_zero, List.set_cons_succ])
        refine wl_give rfl (g_ilss 3 _ _ .i64 (((i : Nat) : Int)) (60) false rfl rfl (decide_eq_false hi6) ?_)
        (try simp only [Act.put, List.setIfInBounds_toArray, List.set_cons_zero, List.set_cons_succ])
        refine wl_give rfl (g_pickt _ _ _ (.bool false) rfl rfl ?_)
        (try simp only [Act.put, List.setIfInBounds_toArray, List.set_cons_zero, List.set_cons_succ])
        refine wl_nil ?_
        refine hK65 _ _ ?_
        (try clear hK65 K65)
        refine wp_cond_false rfl ?_
        refine wp_exit ?_
        refine hK16 _ _ ?_
        (try clear hK16 K16)
        refine wp_seq_k (fun K66 hK66 => ?_)
        refine wp_seq_k (fun K67 hK67 => ?_)
        refine wl_region ?_
        refine wl_give rfl (g_assign _ (.int .i64 (0)) rfl ?_)
        (try simp only [Act.put, List.setIfInBounds_toArray, List.set_cons_zero, List.set_cons_succ])
        refine wl_nil ?_
        refine hK67 _ _ ?_
        (try clear hK67 K67)
        refine wp_block ?_
        obtain ⟨ao1, cap1, rfl, hcap1, _⟩ := row_slice (hM.up 2 rfl)
        obtain ⟨ao2, cap2, rfl, hcap2, _⟩ := row_slice (hM.up 3 rfl)
        go_loopw [19] (fun v wr => ∃ j : Nat, j ≤ 50 ∧ v = .int .i64 ((j : Nat) : Int) ∧ Ms w wr [wk p9 (k) L (a) m1, wk p12 (k) L (b) m2, row 23 32 (.slice ao1 a cap1) (a) (kl k L a), row 23 32 (.slice ao2 b cap2) (b) (kl k L b), blk (w.heap.size) (kc (s)) 23]) (fun v _ => (50 - intOf v).toNat)
        case atStart => exact ⟨0, by omega, rfl, (((((hM.up 4 rfl).up 4 rfl).up 4 rfl).up 4 rfl).up 4 rfl)⟩
        case round =>
          clear hM
          obtain ⟨j, hj5, rfl, hM⟩ := hrel
          have ej : Shut (IntKind.i64.wrap (((j : Nat) : Int) + 1) = ((j + 1 : Nat) : Int)) := ⟨by rw [wrap_id _ (by omega) (by omega)]; omega⟩
          by_cases hja : ((j : Nat) : Int) < ((a : Nat) : Int)
          · by_cases hjb : ((j : Nat) : Int) < ((b : Nat) : Int)
            · skip
              obtain ⟨g1, _, _, hv1, _⟩ := row_at (hM.up 2 rfl) (by omega)
              obtain ⟨g2, _, _, hv2, _⟩ := row_at (hM.up 3 rfl) (by omega)
              cases hv1
              cases hv2
              obtain ⟨X, hX0⟩ : ∃ X, Shut (wl (k - j) L = X) := ⟨_, ⟨rfl⟩⟩
              have hr1 : Shut (((kl k L a).drop (j * 32)).take 32 = kc X) := ⟨by rw [kl_at k L a j (by omega), hX0.out]⟩
              have hr2 : Shut (((kl k L b).drop (j * 32)).take 32 = kc X) := ⟨by rw [kl_at k L b j (by omega), hX0.out]⟩
              refine wp_seq_k (fun K68 hK68 => ?_)
              refine wp_seq_k (fun K69 hK69 => ?_)
              refine wl_region ?_
              refine wl_give rfl (g_move _ (.int .i64 (((j : Nat) : Int))) rfl ?_)
              (try simp only [Act.put, List.setIfInBounds_toArray, List.set_cons_zero, List.set_cons_succ])
              refine wl_give rfl (g_move _ (.slice (some ⟨g1, 0, none⟩) (a) (cap1)) rfl ?_)
              (try simp only [Act.put, List.setIfInBounds_toArray, List.set_cons_zero, List.set_cons_succ])
              refine wl_give rfl (g_len _ 45 23 (some ⟨g1, 0, none⟩) a cap1 (((a : Nat) : Int)) Tryd.underlying45 rfl rfl ?_)
              (try simp only [Act.put, List.setIfInBounds_toArray, List.set_cons_zero, List.set_cons_succ])
              refine wl_give rfl (g_ilss 3 _ _ .i64 (((j : Nat) : Int)) (((a : Nat) : Int)) true rfl rfl (decide_eq_true hja) ?_)
              (try simp only [Act.put, List.setIfInBounds_toArray, List.set_cons_zero, List.set_cons_succ])
              refine wl_give rfl (g_move _ (.bool true) rfl ?_)
              (try simp only [Act.put, List.setIfInBounds_toArray, List.set_cons_zero, List.set_cons_succ])
              refine wl_give rfl (g_move _ (.int .i64 (((j : Nat) : Int))) rfl ?_)
              (try simp only [Act.put, List.setIfInBounds_toArray, List.set_cons_zero, List.set_cons_succ])
              refine wl_give rfl (g_move _ (.slice (some ⟨g2, 0, none⟩) (b) (cap2)) rfl ?_)
              (try simp only [Act.put, List.setIfInBounds_toArray, List.set_cons_zero, List.set_cons_succ])
              refine wl_give rfl (g_len _ 45 23 (some ⟨g2, 0, none⟩) b cap2 (((b : Nat) : Int)) Tryd.underlying45 rfl rfl ?_)
              (try simp only [Act.put, List.setIfInBounds_toArray, List.set_cons_zero, List.set_cons_succ])
              refine wl_give rfl (g_ilss 3 _ _ .i64 (((j : Nat) : Int)) (((b : Nat) : Int)) true rfl rfl (decide_eq_true hjb) ?_)
              (try simp only [Act.put, List.setIfInBounds_toArray, List.set_cons_zero, List.set_cons_succ])
              refine wl_give rfl (g_pickt _ _ _ (.bool true) rfl rfl ?_)
              (try simp only [Act.put, List.setIfInBounds_toArray, List.set_cons_zero, List.set_cons_succ])
              refine wl_nil ?_
              refine hK69 _ _ ?_
              (try clear hK69 K69)
              refine wp_cond_true rfl ?_
              refine wp_skip ?_
              refine hK68 _ _ ?_
              (try clear hK68 K68)
              refine wp_seq_k (fun K70 hK70 => ?_)
              refine wp_block ?_
              refine wp_seq_k (fun K71 hK71 => ?_)
              refine wp_region_fixed (by kernel_rfl) (by kernel_rfl) [.slice (some ⟨g1, 0, none⟩) (a) (cap1), .int .i64 (((j : Nat) : Int)), .pointer (some ⟨g1, 0 + j * 32, none⟩), .agg (kc (X)).toArray, .slice (some ⟨g2, 0, none⟩) (b) (cap2), .int .i64 (((j : Nat) : Int)), .pointer (some ⟨g2, 0 + j * 32, none⟩), .agg (kc (X)).toArray, .bool false] (by rfl) (fun wx => Ms w wx [wk p9 (k) L (a) m1, wk p12 (k) L (b) m2, row 23 32 (.slice (some ⟨g1, 0, none⟩) a cap1) (a) (kl k L a), row 23 32 (.slice (some ⟨g2, 0, none⟩) b cap2) (b) (kl k L b), blk (w.heap.size) (kc (s)) 23]) hM.drew ?_ ?_
              · simp only [fullL, Act.put, List.setIfInBounds_toArray, List.set_cons_succ, List.set_cons_zero]
                refine ⟨?_, ?_, ?_, ?_, ?_, ?_, ?_, ?_, ?_, trivial⟩
                · exact fun wx hM => gw rfl (g_move _ (.slice (some ⟨g1, 0, none⟩) (a) (cap1)) rfl ⟨rfl, hM⟩)
                · exact fun wx hM => gw rfl (g_move _ (.int .i64 (((j : Nat) : Int))) rfl ⟨rfl, hM⟩)
                · exact fun wx hM => gw rfl (g_ix _ _ 45 23 32 Tryd.underlying45 szof23 g1 0 a cap1 j (0 + j * 32) _ rfl rfl rfl (by omega) rfl ⟨rfl, hM⟩)
                · exact fun wx hM => gw rfl (g_ldRow _ g1 a cap1 j (0 + j * 32) (kl k L a) X rfl rfl (show Ms w _ [row 23 32 (.slice (some ⟨g1, 0, none⟩) a cap1) (a) (kl k L a), wk p9 (k) L (a) m1, wk p12 (k) L (b) m2, row 23 32 (.slice (some ⟨g2, 0, none⟩) b cap2) (b) (kl k L b), blk (w.heap.size) (kc (s)) 23] from (hM.up 2 rfl)) (by omega) hr1.out ⟨rfl, hM⟩)
                · exact fun wx hM => gw rfl (g_move _ (.slice (some ⟨g2, 0, none⟩) (b) (cap2)) rfl ⟨rfl, hM⟩)
                · exact fun wx hM => gw rfl (g_move _ (.int .i64 (((j : Nat) : Int))) rfl ⟨rfl, hM⟩)
                · exact fun wx hM => gw rfl (g_ix _ _ 45 23 32 Tryd.underlying45 szof23 g2 0 b cap2 j (0 + j * 32) _ rfl rfl rfl (by omega) rfl ⟨rfl, hM⟩)
                · exact fun wx hM => gw rfl (g_ldRow _ g2 b cap2 j (0 + j * 32) (kl k L b) X rfl rfl (show Ms w _ [row 23 32 (.slice (some ⟨g2, 0, none⟩) b cap2) (b) (kl k L b), wk p9 (k) L (a) m1, wk p12 (k) L (b) m2, row 23 32 (.slice (some ⟨g1, 0, none⟩) a cap1) (a) (kl k L a), blk (w.heap.size) (kc (s)) 23] from (hM.up 3 rfl)) (by omega) hr2.out ⟨rfl, hM⟩)
                · exact fun wx hM => gw rfl (g_nK _ _ (X) (X) true false rfl rfl (decide_eq_true rfl) rfl ⟨rfl, hM⟩)
              · simp only [fullL, Act.put, List.setIfInBounds_toArray, List.set_cons_succ, List.set_cons_zero]
                intro w72 hM
                refine hK71 _ _ ?_
                (try clear hK71 K71)
                refine wp_cond_false rfl ?_
                refine wp_skip ?_
                refine hK70 _ _ ?_
                (try clear hK70 K70)
                refine wl_region ?_
                refine wl_give rfl (g_move _ (.int .i64 (((j : Nat) : Int))) rfl ?_)
                (try simp only [Act.put, List.setIfInBounds_toArray, List.set_cons_zero, List.set_cons_succ])
                refine wl_give rfl (g_ia 3 _ _ .i64 (((j : Nat) : Int)) (1) (((j + 1 : Nat) : Int)) rfl rfl ej.out ?_)
                (try simp only [Act.put, List.setIfInBounds_toArray, List.set_cons_zero, List.set_cons_succ])
                refine wl_give rfl (g_assign _ (.int .i64 (((j + 1 : Nat) : Int))) rfl ?_)
                (try simp only [Act.put, List.setIfInBounds_toArray, List.set_cons_zero, List.set_cons_succ])
                refine wl_nil ?_
                (try simp only [Exit.then, Exit.inBlock, ↓reduceIte, Nat.reduceEqDiff])
                go_roundw
                case rel => exact ⟨j + 1, by omega, rfl, hM⟩
                case measure => simp [intOf]; omega
            · skip
              refine wp_seq_k (fun K73 hK73 => ?_)
              refine wp_seq_k (fun K74 hK74 => ?_)
              refine wl_region ?_
              refine wl_give rfl (g_move _ (.int .i64 (((j : Nat) : Int))) rfl ?_)
              (try simp only [Act.put, List.setIfInBounds_toArray, List.set_cons_zero, List.set_cons_succ])
              refine wl_give rfl (g_move _ (.slice ao1 (a) (cap1)) rfl ?_)
              (try simp only [Act.put, List.setIfInBounds_toArray, List.set_cons_zero, List.set_cons_succ])
              refine wl_give rfl (g_len _ 45 23 ao1 a cap1 (((a : Nat) : Int)) Tryd.underlying45 rfl rfl ?_)
              (try simp only [Act.put, List.setIfInBounds_toArray, List.set_cons_zero, List.set_cons_succ])
              refine wl_give rfl (g_ilss 3 _ _ .i64 (((j : Nat) : Int)) (((a : Nat) : Int)) true rfl rfl (decide_eq_true hja) ?_)
              (try simp only [Act.put, List.setIfInBounds_toArray, List.set_cons_zero, List.set_cons_succ])
              refine wl_give rfl (g_move _ (.bool true) rfl ?_)
              (try simp only [Act.put, List.setIfInBounds_toArray, List.set_cons_zero, List.set_cons_succ])
              refine wl_give rfl (g_move _ (.int .i64 (((j : Nat) : Int))) rfl ?_)
              (try simp only [Act.put, List.setIfInBounds_toArray, List.set_cons_zero, List.set_cons_succ])
              refine wl_give rfl (g_move _ (.slice ao2 (b) (cap2)) rfl ?_)
              (try simp only [Act.put, List.setIfInBounds_toArray, List.set_cons_zero, List.set_cons_succ])
              refine wl_give rfl (g_len _ 45 23 ao2 b cap2 (((b : Nat) : Int)) Tryd.underlying45 rfl rfl ?_)
              (try simp only [Act.put, List.setIfInBounds_toArray, List.set_cons_zero, List.set_cons_succ])
              refine wl_give rfl (g_ilss 3 _ _ .i64 (((j : Nat) : Int)) (((b : Nat) : Int)) false rfl rfl (decide_eq_false hjb) ?_)
              (try simp only [Act.put, List.setIfInBounds_toArray, List.set_cons_zero, List.set_cons_succ])
              refine wl_give rfl (g_pickt _ _ _ (.bool false) rfl rfl ?_)
              (try simp only [Act.put, List.setIfInBounds_toArray, List.set_cons_zero, List.set_cons_succ])
              refine wl_nil ?_
              refine hK74 _ _ ?_
              (try clear hK74 K74)
              refine wp_cond_false rfl ?_
              refine wp_exit ?_
              refine hK66 _ _ ?_
              (try clear hK66 K66)
              refine wp_seq_k (fun K75 hK75 => ?_)
              refine wl_region ?_
              refine wl_give rfl (g_move _ (.pointer (some ⟨p9, 0, none⟩)) rfl ?_)
              (try simp only [Act.put, List.setIfInBounds_toArray, List.set_cons_zero, List.set_cons_succ])
              refine wl_give rfl (g_call 11 _ _ [.pointer (some ⟨p9, 0, none⟩)] (kf11 _ _) rfl ((wat_any hM).mono ?_))
              rintro e w76 ⟨rfl, t_⟩
              refine ⟨_, rfl, ?_⟩
              replace hM := hM.call t_
              clear t_
              (try simp only [Act.put, List.setIfInBounds_toArray, List.set_cons_zero, List.set_cons_succ])
              refine wl_give rfl (g_move _ (.slice ao1 (a) (cap1)) rfl ?_)
              (try simp only [Act.put, List.setIfInBounds_toArray, List.set_cons_zero, List.set_cons_succ])
              refine wl_give rfl (g_len _ 45 23 ao1 a cap1 (((a : Nat) : Int)) Tryd.underlying45 rfl rfl ?_)
              (try simp only [Act.put, List.setIfInBounds_toArray, List.set_cons_zero, List.set_cons_succ])
              refine wl_give rfl (g_ieq 3 _ _ .i64 (((a : Nat) : Int)) (((a : Nat) : Int)) true rfl rfl (decide_eq_true rfl) ?_)
              (try simp only [Act.put, List.setIfInBounds_toArray, List.set_cons_zero, List.set_cons_succ])
              refine wl_give rfl (g_move _ (.bool true) rfl ?_)
              (try simp only [Act.put, List.setIfInBounds_toArray, List.set_cons_zero, List.set_cons_succ])
              refine wl_give rfl (g_move _ (.pointer (some ⟨p12, 0, none⟩)) rfl ?_)
              (try simp only [Act.put, List.setIfInBounds_toArray, List.set_cons_zero, List.set_cons_succ])
              refine wl_give rfl (g_call 11 _ _ [.pointer (some ⟨p12, 0, none⟩)] (kf11 _ _) rfl ((wat_any (show Ms w w76 [wk p12 (k) L (b) m2, wk p9 (k) L (a) m1, row 23 32 (.slice ao1 a cap1) (a) (kl k L a), row 23 32 (.slice ao2 b cap2) (b) (kl k L b), blk (w.heap.size) (kc (s)) 23] from (hM.up 1 rfl))).mono ?_))
              rintro e w77 ⟨rfl, t_⟩
              refine ⟨_, rfl, ?_⟩
              replace hM := hM.call t_
              clear t_
              (try simp only [Act.put, List.setIfInBounds_toArray, List.set_cons_zero, List.set_cons_succ])
              refine wl_give rfl (g_move _ (.slice ao2 (b) (cap2)) rfl ?_)
              (try simp only [Act.put, List.setIfInBounds_toArray, List.set_cons_zero, List.set_cons_succ])
              refine wl_give rfl (g_len _ 45 23 ao2 b cap2 (((b : Nat) : Int)) Tryd.underlying45 rfl rfl ?_)
              (try simp only [Act.put, List.setIfInBounds_toArray, List.set_cons_zero, List.set_cons_succ])
              refine wl_give rfl (g_ieq 3 _ _ .i64 (((b : Nat) : Int)) (((b : Nat) : Int)) true rfl rfl (decide_eq_true rfl) ?_)
              (try simp only [Act.put, List.setIfInBounds_toArray, List.set_cons_zero, List.set_cons_succ])
              refine wl_give rfl (g_pickt _ _ _ (.bool true) rfl rfl ?_)
              (try simp only [Act.put, List.setIfInBounds_toArray, List.set_cons_zero, List.set_cons_succ])
              refine wl_give rfl (g_assign _ (.bool true) rfl ?_)
              (try simp only [Act.put, List.setIfInBounds_toArray, List.set_cons_zero, List.set_cons_succ])
              refine wl_nil ?_
              refine hK75 _ _ ?_
              (try clear hK75 K75)
              refine wp_ret ?_
              go_ret
              exact ⟨rfl, hM.below⟩
          · skip
            refine wp_seq_k (fun K78 hK78 => ?_)
            refine wp_seq_k (fun K79 hK79 => ?_)
            refine wl_region ?_
            refine wl_give rfl (g_move _ (.int .i64 (((j : Nat) : Int))) rfl ?_)
            (try simp only [Act.put, List.setIfInBounds_toArray, List.set_cons_zero, List.set_cons_succ])
            refine wl_give rfl (g_move _ (.slice ao1 (a) (cap1)) rfl ?_)
            (try simp only [Act.put, List.setIfInBounds_toArray, List.set_cons_zero, List.set_cons_succ])
            refine wl_give rfl (g_len _ 45 23 ao1 a cap1 (((a : Nat) : Int)) Tryd.underlying45 rfl rfl ?_)
            (try simp only [Act.put, List.setIfInBounds_toArray, List.set_cons_zero, List.set_cons_succ])
            refine wl_give rfl (g_ilss 3 _ _ .i64 (((j : Nat) : Int)) (((a : Nat) : Int)) false rfl rfl (decide_eq_false hja) ?_)
            (try simp only [Act.put, List.setIfInBounds_toArray, List.set_cons_zero, List.set_cons_succ])
            refine wl_give rfl (g_move _ (.bool false) rfl ?_)
            (try simp only [Act.put, List.setIfInBounds_toArray, List.set_cons_zero, List.set_cons_succ])
            refine wl_skip rfl ?_
            (try simp only [Act.put, List.setIfInBounds_toArray, List.set_cons_zero, List.set_cons_succ])
            refine wl_skip rfl ?_
            (try simp only [Act.put, List.setIfInBounds_toArray, List.set_cons_zero, List.set_cons_succ])
            refine wl_skip rfl ?_
            (try simp only [Act.put, List.setIfInBounds_toArray, List.set_cons_zero, List.set_cons_succ])
            refine wl_skip rfl ?_
            (try simp only [Act.put, List.setIfInBounds_toArray, List.set_cons_zero, List.set_cons_succ])
            refine wl_give rfl (g_pickf _ _ _ (.bool false) rfl rfl ?_)
            (try simp only [Act.put, List.setIfInBounds_toArray, List.set_cons_zero, List.set_cons_succ])
            refine wl_nil ?_
            refine hK79 _ _ ?_
            (try clear hK79 K79)
            refine wp_cond_false rfl ?_
            refine wp_exit ?_
            refine hK66 _ _ ?_
            (try clear hK66 K66)
            refine wp_seq_k (fun K80 hK80 => ?_)
            refine wl_region ?_
            refine wl_give rfl (g_move _ (.pointer (some ⟨p9, 0, none⟩)) rfl ?_)
            (try simp only [Act.put, List.setIfInBounds_toArray, List.set_cons_zero, List.set_cons_succ])
            refine wl_give rfl (g_call 11 _ _ [.pointer (some ⟨p9, 0, none⟩)] (kf11 _ _) rfl ((wat_any hM).mono ?_))
            rintro e w81 ⟨rfl, t_⟩
            refine ⟨_, rfl, ?_⟩
            replace hM := hM.call t_
            clear t_
            (try simp only [Act.put, List.setIfInBounds_toArray, List.set_cons_zero, List.set_cons_succ])
            refine wl_give rfl (g_move _ (.slice ao1 (a) (cap1)) rfl ?_)
            (try simp only [Act.put, List.setIfInBounds_toArray, List.set_cons_zero, List.set_cons_succ])
            refine wl_give rfl (g_len _ 45 23 ao1 a cap1 (((a : Nat) : Int)) Tryd.underlying45 rfl rfl ?_)
            (try simp only [Act.put, List.setIfInBounds_toArray, List.set_cons_zero, List.set_cons_succ])
            refine wl_give rfl (g_ieq 3 _ _ .i64 (((a : Nat) : Int)) (((a : Nat) : Int)) true rfl rfl (decide_eq_true rfl) ?_)
            (try simp only [Act.put, List.setIfInBounds_toArray, List.set_cons_zero, List.set_cons_succ])
            refine wl_give rfl (g_move _ (.bool true) rfl ?_)
            (try simp only [Act.put, List.setIfInBounds_toArray, List.set_cons_zero, List.set_cons_succ])
            refine wl_give rfl (g_move _ (.pointer (some ⟨p12, 0, none⟩)) rfl ?_)
            (try simp only [Act.put, List.setIfInBounds_toArray, List.set_cons_zero, List.set_cons_succ])
            refine wl_give rfl (g_call 11 _ _ [.pointer (some ⟨p12, 0, none⟩)] (kf11 _ _) rfl ((wat_any (show Ms w w81 [wk p12 (k) L (b) m2, wk p9 (k) L (a) m1, row 23 32 (.slice ao1 a cap1) (a) (kl k L a), row 23 32 (.slice ao2 b cap2) (b) (kl k L b), blk (w.heap.size) (kc (s)) 23] from (hM.up 1 rfl))).mono ?_))
            rintro e w82 ⟨rfl, t_⟩
            refine ⟨_, rfl, ?_⟩
            replace hM := hM.call t_
            clear t_
            (try simp only [Act.put, List.setIfInBounds_toArray, List.set_cons_zero, List.set_cons_succ])
            refine wl_give rfl (g_move _ (.slice ao2 (b) (cap2)) rfl ?_)
            (try simp only [Act.put, List.setIfInBounds_toArray, List.set_cons_zero, List.set_cons_succ])
            refine wl_give rfl (g_len _ 45 23 ao2 b cap2 (((b : Nat) : Int)) Tryd.underlying45 rfl rfl ?_)
            (try simp only [Act.put, List.setIfInBounds_toArray, List.set_cons_zero, List.set_cons_succ])
            refine wl_give rfl (g_ieq 3 _ _ .i64 (((b : Nat) : Int)) (((b : Nat) : Int)) true rfl rfl (decide_eq_true rfl) ?_)
            (try simp only [Act.put, List.setIfInBounds_toArray, List.set_cons_zero, List.set_cons_succ])
            refine wl_give rfl (g_pickt _ _ _ (.bool true) rfl rfl ?_)
            (try simp only [Act.put, List.setIfInBounds_toArray, List.set_cons_zero, List.set_cons_succ])
            refine wl_give rfl (g_assign _ (.bool true) rfl ?_)
            (try simp only [Act.put, List.setIfInBounds_toArray, List.set_cons_zero, List.set_cons_succ])
            refine wl_nil ?_
            refine hK80 _ _ ?_
            (try clear hK80 K80)
            refine wp_ret ?_
            go_ret
            exact ⟨rfl, hM.below⟩
    · skip
      refine wp_seq_k (fun K83 hK83 => ?_)
      refine wp_seq_k (fun K84 hK84 => ?_)
      refine wl_region ?_
      refine wl_give rfl (g_move _ (.int .i64 (((i : Nat) : Int))) rfl ?_)
      (try simp only [Act.put, List.setIfInBounds_toArray, List.set_cons_zero, List.set_cons_succ])
      refine wl_give rfl (g_move _ (.slice ao (c) (cap)) rfl ?_)
      (try simp only [Act.put, List.setIfInBounds_toArray, List.set_cons_zero, List.set_cons_succ])
      refine wl_give rfl (g_len _ 44 4 _ c cap (((c : Nat) : Int)) Tryd.underlying44 rfl rfl ?_)
      (try simp only [Act.put, List.setIfInBounds_toArray, List.set_cons_zero, List.set_cons_succ])
      refine wl_give rfl (g_ilss 3 _ _ .i64 (((i : Nat) : Int)) (((c : Nat) : Int)) false rfl rfl (decide_eq_false hic) ?_)
      (try simp only [Act.put, List.setIfInBounds_toArray, List.set_cons_zero, List.set_cons_succ])
      refine wl_give rfl (g_move _ (.bool false) rfl ?_)
      (try simp only [Act.put, List.setIfInBounds_toArray, List.set_cons_zero, List.set_cons_succ])
      refine wl_skip rfl ?_
      (try simp only [Act.put, List.setIfInBounds_toArray, List.set_cons_zero, List.set_cons_succ])
      refine wl_skip rfl ?_
      (try simp only [Act.put, List.setIfInBounds_toArray, List.set_cons_zero, List.set_cons_succ])
      refine wl_give rfl (g_pickf _ _ _ (.bool false) rfl rfl ?_)
      (try simp only [Act.put, List.setIfInBounds_toArray, List.set_cons_zero, List.set_cons_succ])
      refine wl_nil ?_
      refine hK84 _ _ ?_
      (try clear hK84 K84)
      refine wp_cond_false rfl ?_
      refine wp_exit ?_
      refine hK16 _ _ ?_
      (try clear hK16 K16)
      refine wp_seq_k (fun K85 hK85 => ?_)
      refine wp_seq_k (fun K86 hK86 => ?_)
      refine wl_region ?_
      refine wl_give rfl (g_assign _ (.int .i64 (0)) rfl ?_)
      (try simp only [Act.put, List.setIfInBounds_toArray, List.set_cons_zero, List.set_cons_succ])
      refine wl_nil ?_
      refine hK86 _ _ ?_
      (try clear hK86 K86)
      refine wp_block ?_
      obtain ⟨ao1, cap1, rfl, hcap1, _⟩ := row_slice (hM.up 2 rfl)
      obtain ⟨ao2, cap2, rfl, hcap2, _⟩ := row_slice (hM.up 3 rfl)
      go_loopw [19] (fun v wr => ∃ j : Nat, j ≤ 50 ∧ v = .int .i64 ((j : Nat) : Int) ∧ Ms w wr [wk p9 (k) L (a) m1, wk p12 (k) L (b) m2, row 23 32 (.slice ao1 a cap1) (a) (kl k L a), row 23 32 (.slice ao2 b cap2) (b) (kl k L b), blk (w.heap.size) (kc (s)) 23]) (fun v _ => (50 - intOf v).toNat)
      case atStart => exact ⟨0, by omega, rfl, (((((hM.up 4 rfl).up 4 rfl).up 4 rfl).up 4 rfl).up 4 rfl)⟩
      case round =>
        clear hM
        obtain ⟨j, hj5, rfl, hM⟩ := hrel
        have ej : Shut (IntKind.i64.wrap (((j : Nat) : Int) + 1) = ((j + 1 : Nat) : Int)) := ⟨by rw [wrap_id _ (by omega) (by omega)]; omega⟩
        by_cases hja : ((j : Nat) : Int) < ((a : Nat) : Int)
        · by_cases hjb : ((j : Nat) : Int) < ((b : Nat) : Int)
          · skip
            obtain ⟨g1, _, _, hv1, _⟩ := row_at (hM.up 2 rfl) (by omega)
            obtain ⟨g2, _, _, hv2, _⟩ := row_at (hM.up 3 rfl) (by omega)
            cases hv1
            cases hv2
            obtain ⟨X, hX0⟩ : ∃ X, Shut (wl (k - j) L = X) := ⟨_, ⟨rfl⟩⟩
            have hr1 : Shut (((kl k L a).drop (j * 32)).take 32 = kc X) := ⟨by rw [kl_at k L a j (by omega), hX0.out]⟩
            have hr2 : Shut (((kl k L b).drop (j * 32)).take 32 = kc X) := ⟨by rw [kl_at k L b j (by omega), hX0.out]⟩
            refine wp_seq_k (fun K87 hK87 => ?_)
            refine wp_seq_k (fun K88 hK88 => ?_)
            refine wl_region ?_
            refine wl_give rfl (g_move _ (.int .i64 (((j : Nat) : Int))) rfl ?_)
            (try simp only [Act.put, List.setIfInBounds_toArray, List.set_cons_zero, List.set_cons_succ])
            refine wl_give rfl (g_move _ (.slice (some ⟨g1, 0, none⟩) (a) (cap1)) rfl ?_)
            (try simp only [Act.put, List.setIfInBounds_toArray, List.set_cons_zero, List.set_cons_succ])
            refine wl_give rfl (g_len _ 45 23 (some ⟨g1, 0, none⟩) a cap1 (((a : Nat) : Int)) Tryd.underlying45 rfl rfl ?_)
            (try simp only [Act.put, List.setIfInBounds_toArray, List.set_cons_zero, List.set_cons_succ])
            refine wl_give rfl (g_ilss 3 _ _ .i64 (((j : Nat) : Int)) (((a : Nat) : Int)) true rfl rfl (decide_eq_true hja) ?_)
            (try simp only [Act.put, List.setIfInBounds_toArray, List.set_cons_zero, List.set_cons_succ])
            refine wl_give rfl (g_move _ (.bool true) rfl ?_)
            (try simp only [Act.put, List.setIfInBounds_toArray, List.set_cons_zero, List.set_cons_succ])
            refine wl_give rfl (g_move _ (.int .i64 (((j : Nat) : Int))) rfl ?_)
            (try simp only [Act.put, List.setIfInBounds_toArray, List.set_cons_zero, List.set_cons_succ])
            refine wl_give rfl (g_move _ (.slice (some ⟨g2, 0, none⟩) (b) (cap2)) rfl ?_)
            (try simp only [Act.put, List.setIfInBounds_toArray, List.set_cons_zero, List.set_cons_succ])
            refine wl_give rfl (g_len _ 45 23 (some ⟨g2, 0, none⟩) b cap2 (((b : Nat) : Int)) Tryd.underlying45 rfl rfl ?_)
            (try simp only [Act.put, List.setIfInBounds_toArray, List.set_cons_zero, List.set_cons_succ])
            refine wl_give rfl (g_ilss 3 _ _ .i64 (((j : Nat) : Int)) (((b : Nat) : Int)) true rfl rfl (decide_eq_true hjb) ?_)
            (try simp only [Act.put, List.setIfInBounds_toArray, List.set_cons_zero, List.set_cons_succ])
            refine wl_give rfl (g_pickt _ _ _ (.bool true) rfl rfl ?_)
            (try simp only [Act.put, List.setIfInBounds_toArray, List.set_cons_zero, List.set_cons_succ])
            refine wl_nil ?_
            refine hK88 _ _ ?_
            (try clear hK88 K88)
            refine wp_cond_true rfl ?_
            refine wp_skip ?_
            refine hK87 _ _ ?_
            (try clear hK87 K87)
            refine wp_seq_k (fun K89 hK89 => ?_)
            refine wp_block ?_
            refine wp_seq_k (fun K90 hK90 => ?_)
            refine wp_region_fixed (by kernel_rfl) (by kernel_rfl) [.slice (some ⟨g1, 0, none⟩) (a) (cap1), .int .i64 (((j : Nat) : Int)), .pointer (some ⟨g1, 0 + j * 32, none⟩), .agg (kc (X)).toArray, .slice (some ⟨g2, 0, none⟩) (b) (cap2), .int .i64 (((j : Nat) : Int)), .pointer (some ⟨g2, 0 + j * 32, none⟩), .agg (kc (X)).toArray, .bool false] (by rfl) (fun wx => Ms w wx [wk p9 (k) L (a) m1, wk p12 (k) L (b) m2, row 23 32 (.slice (some ⟨g1, 0, none⟩) a cap1) (a) (kl k L a), row 23 32 (.slice (some ⟨g2, 0, none⟩) b cap2) (b) (kl k L b), blk (w.heap.size) (kc (s)) 23]) hM.drew ?_ ?_
            · simp only [fullL, Act.put, List.setIfInBounds_toArray, List.set_cons_succ, List.set_cons_zero]
              refine ⟨?_, ?_, ?_, ?_, ?_, ?_, ?_, ?_, ?_, trivial⟩
              · exact fun wx hM => gw rfl (g_move _ (.slice (some ⟨g1, 0, none⟩) (a) (cap1)) rfl ⟨rfl, hM⟩)
              · exact fun wx hM => gw rfl (g_move _ (.int .i64 (((j : Nat) : Int))) rfl ⟨rfl, hM⟩)
              · exact fun wx hM => gw rfl (g_ix _ _ 45 23 32 Tryd.underlying45 szof23 g1 0 a cap1 j (0 + j * 32) _ rfl rfl rfl (by omega) rfl ⟨rfl, hM⟩)
              · exact fun wx hM => gw rfl (g_ldRow _ g1 a cap1 j (0 + j * 32) (kl k L a) X rfl rfl (show Ms w _ [row 23 32 (.slice (some ⟨g1, 0, none⟩) a cap1) (a) (kl k L a), wk p9 (k) L (a) m1, wk p12 (k) L (b) m2, row 23 32 (.slice (some ⟨g2, 0, none⟩) b cap2) (b) (kl k L b), blk (w.heap.size) (kc (s)) 23] from (hM.up 2 rfl)) (by omega) hr1.out ⟨rfl, hM⟩)
              · exact fun wx hM => gw rfl (g_move _ (.slice (some ⟨g2, 0, none⟩) (b) (cap2)) rfl ⟨rfl, hM⟩)
              · exact fun wx hM => gw rfl (g_move _ (.int .i64 (((j : Nat) : Int))) rfl ⟨rfl, hM⟩)
              · exact fun wx hM => gw rfl (g_ix _ _ 45 23 32 Tryd.underlying45 szof23 g2 0 b cap2 j (0 + j * 32) _ rfl rfl rfl (by omega) rfl ⟨rfl, hM⟩)
              · exact fun wx hM => gw rfl (g_ldRow _ g2 b cap2 j (0 + j * 32) (kl k L b) X rfl rfl (show Ms w _ [row 23 32 (.slice (some ⟨g2, 0, none⟩) b cap2) (b) (kl k L b), wk p9 (k) L (a) m1, wk p12 (k) L (b) m2, row 23 32 (.slice (some ⟨g1, 0, none⟩) a cap1) (a) (kl k L a), blk (w.heap.size) (kc (s)) 23] from (hM.up 3 rfl)) (by omega) hr2.out ⟨rfl, hM⟩)
              · exact fun wx hM => gw rfl (g_nK _ _ (X) (X) true false rfl rfl (decide_eq_true rfl) rfl ⟨rfl, hM⟩)
            · simp only [fullL, Act.put, List.setIfInBounds_toArray, List.set_cons_succ, List.set_cons_zero]
              intro w91 hM
              refine hK90 _ _ ?_
              (try clear hK90 K90)
              refine wp_cond_false rfl ?_
              refine wp_skip ?_
              refine hK89 _ _ ?_
              (try clear hK89 K89)
              refine wl_region ?_
              refine wl_give rfl (g_move _ (.int .i64 (((j : Nat) : Int))) rfl ?_)
              (try simp only [Act.put, List.setIfInBounds_toArray, List.set_cons_zero, List.set_cons_succ])
              refine wl_give rfl (g_ia 3 _ _ .i64 (((j : Nat) : Int)) (1) (((j + 1 : Nat) : Int)) rfl rfl ej.out ?_)
              (try simp only [Act.put, List.setIfInBounds_toArray, List.set_cons_zero, List.set_cons_succ])
              refine wl_give rfl (g_assign _ (.int .i64 (((j + 1 : Nat) : Int))) rfl ?_)
              (try simp only [Act.put, List.setIfInBounds_toArray, List.set_cons_zero, List.set_cons_succ])
              refine wl_nil ?_
              (try simp only [Exit.then, Exit.inBlock, ↓reduceIte, Nat.reduceEqDiff])
              go_roundw
              case rel => exact ⟨j + 1, by omega, rfl, hM⟩
              case measure => simp [intOf]; omega
          · skip
            refine wp_seq_k (fun K92 hK92 => ?_)
            refine wp_seq_k (fun K93 hK93 => ?_)
            refine wl_region ?_
            refine wl_give rfl (g_move _ (.int .i64 (((j : Nat) : Int))) rfl ?_)
            (try simp only [Act.put, List.setIfInBounds_toArray, List.set_cons_zero, List.set_cons_succ])
            refine wl_give rfl (g_move _ (.slice ao1 (a) (cap1)) rfl ?_)
            (try simp only [Act.put, List.setIfInBounds_toArray, List.set_cons_zero, List.set_cons_succ])
            refine wl_give rfl (g_len _ 45 23 ao1 a cap1 (((a : Nat) : Int)) Tryd.underlying45 rfl rfl ?_)
            (try simp only [Act.put, List.setIfInBounds_toArray, List.set_cons_zero, List.set_cons_succ])
            refine wl_give rfl (g_ilss 3 _ _ .i64 (((j : Nat) : Int)) (((a : Nat) : Int)) true rfl rfl (decide_eq_true hja) ?_)
            (try simp only [Act.put, List.setIfInBounds_toArray, List.set_cons_zero, List.set_cons_succ])
            refine wl_give rfl (g_move _ (.bool true) rfl ?_)
            (try simp only [Act.put, List.setIfInBounds_toArray, List.set_cons_zero, List.set_cons_succ])
            refine wl_give rfl (g_move _ (.int .i64 (((j : Nat) : Int))) rfl ?_)
            (try simp only [Act.put, List.setIfInBounds_toArray, List.set_cons_zero, List.set_cons_succ])
            refine wl_give rfl (g_move _ (.slice ao2 (b) (cap2)) rfl ?_)
            (try simp only [Act.put, List.setIfInBounds_toArray, List.set_cons_zero, List.set_cons_succ])
            refine wl_give rfl (g_len _ 45 23 ao2 b cap2 (((b : Nat) : Int)) Tryd.underlying45 rfl rfl ?_)
            (try simp only [Act.put, List.setIfInBounds_toArray, List.set_cons_zero, List.set_cons_succ])
            refine wl_give rfl (g_ilss 3 _ _ .i64 (((j : Nat) : Int)) (((b : Nat) : Int)) false rfl rfl (decide_eq_false hjb) ?_)
            (try simp only [Act.put, List.setIfInBounds_toArray, List.set_cons_zero, List.set_cons_succ])
            refine wl_give rfl (g_pickt _ _ _ (.bool false) rfl rfl ?_)
            (try simp only [Act.put, List.setIfInBounds_toArray, List.set_cons_zero, List.set_cons_succ])
            refine wl_nil ?_
            refine hK93 _ _ ?_
            (try clear hK93 K93)
            refine wp_cond_false rfl ?_
            refine wp_exit ?_
            refine hK85 _ _ ?_
            (try clear hK85 K85)
            refine wp_seq_k (fun K94 hK94 => ?_)
            refine wl_region ?_
            refine wl_give rfl (g_move _ (.pointer (some ⟨p9, 0, none⟩)) rfl ?_)
            (try simp only [Act.put, List.setIfInBounds_toArray, List.set_cons_zero, List.set_cons_succ])
            refine wl_give rfl (g_call 11 _ _ [.pointer (some ⟨p9, 0, none⟩)] (kf11 _ _) rfl ((wat_any hM).mono ?_))
            rintro e w95 ⟨rfl, t_⟩
            refine ⟨_, rfl, ?_⟩
            replace hM := hM.call t_
            clear t_
            (try simp only [Act.put, List.setIfInBounds_toArray, List.set_cons_zero, List.set_cons_succ])
            refine wl_give rfl (g_move _ (.slice ao1 (a) (cap1)) rfl ?_)
            (try simp only [Act.put, List.setIfInBounds_toArray, List.set_cons_zero, List.set_cons_succ])
            refine wl_give rfl (g_len _ 45 23 ao1 a cap1 (((a : Nat) : Int)) Tryd.underlying45 rfl rfl ?_)
            (try simp only [Act.put, List.setIfInBounds_toArray, List.set_cons_zero, List.set_cons_succ])
            refine wl_give rfl (g_ieq 3 _ _ .i64 (((a : Nat) : Int)) (((a : Nat) : Int)) true rfl rfl (decide_eq_true rfl) ?_)
            (try simp only [Act.put, List.setIfInBounds_toArray, List.set_cons_zero, List.set_cons_succ])
            refine wl_give rfl (g_move _ (.bool true) rfl ?_)
            (try simp only [Act.put, List.setIfInBounds_toArray, List.set_cons_zero, List.set_cons_succ])
            refine wl_give rfl (g_move _ (.pointer (some ⟨p12, 0, none⟩)) rfl ?_)
            (try simp only [Act.put, List.setIfInBounds_toArray, List.set_cons_zero, List.set_cons_succ])
            refine wl_give rfl (g_call 11 _ _ [.pointer (some ⟨p12, 0, none⟩)] (kf11 _ _) rfl ((wat_any (show Ms w w95 [wk p12 (k) L (b) m2, wk p9 (k) L (a) m1, row 23 32 (.slice ao1 a cap1) (a) (kl k L a), row 23 32 (.slice ao2 b cap2) (b) (kl k L b), blk (w.heap.size) (kc (s)) 23] from (hM.up 1 rfl))).mono ?_))
            rintro e w96 ⟨rfl, t_⟩
            refine ⟨_, rfl, ?_⟩
            replace hM := hM.call t_
            clear t_
            (try simp only [Act.put, List.setIfInBounds_toArray, List.set_cons_zero, List.set_cons_succ])
            refine wl_give rfl (g_move _ (.slice ao2 (b) (cap2)) rfl ?_)
            (try simp only [Act.put, List.setIfInBounds_toArray, List.set_cons_zero, List.set_cons_succ])
            refine wl_give rfl (g_len _ 45 23 ao2 b cap2 (((b : Nat) : Int)) Tryd.underlying45 rfl rfl ?_)
            (try simp only [Act.put, List.setIfInBounds_toArray, List.set_cons_zero, List.set_cons_succ])
            refine wl_give rfl (g_ieq 3 _ _ .i64 (((b : Nat) : Int)) (((b : Nat) : Int)) true rfl rfl (decide_eq_true rfl) ?_)
            (try simp only [Act.put, List.setIfInBounds_toArray, List.set_cons_zero, List.set_cons_succ])
            refine wl_give rfl (g_pickt _ _ _ (.bool true) rfl rfl ?_)
            (try simp only [Act.put, List.setIfInBounds_toArray, List.set_cons_zero, List.set_cons_succ])
            refine wl_give rfl (g_assign _ (.bool true) rfl ?_)
            (try simp only [Act.put, List.setIfInBounds_toArray, List.set_cons_zero, List.set_cons_succ])
            refine wl_nil ?_
            refine hK94 _ _ ?_
            (try clear hK94 K94)
            refine wp_ret ?_
            go_ret
            exact ⟨rfl, hM.below⟩
        · skip
          refine wp_seq_k (fun K97 hK97 => ?_)
          refine wp_seq_k (fun K98 hK98 => ?_)
          refine wl_region ?_
          refine wl_give rfl (g_move _ (.int .i64 (((j : Nat) : Int))) rfl ?_)
          (try simp only [Act.put, List.setIfInBounds_toArray, List.set_cons_zero, List.set_cons_succ])
          refine wl_give rfl (g_move _ (.slice ao1 (a) (cap1)) rfl ?_)
          (try simp only [Act.put, List.setIfInBounds_toArray, List.set_cons_zero, List.set_cons_succ])
          refine wl_give rfl (g_len _ 45 23 ao1 a cap1 (((a : Nat) : Int)) Tryd.underlying45 rfl rfl ?_)
          (try simp only [Act.put, List.setIfInBounds_toArray, List.set_cons_zero, List.set_cons_succ])
          refine wl_give rfl (g_ilss 3 _ _ .i64 (((j : Nat) : Int)) (((a : Nat) : Int)) false rfl rfl (decide_eq_false hja) ?_)
          (try simp only [Act.put, List.setIfInBounds_toArray, List.set_cons_zero, List.set_cons_succ])
          refine wl_give rfl (g_move _ (.bool false) rfl ?_)
          (try simp only [Act.put, List.setIfInBounds_toArray, List.set_cons_zero, List.set_cons_succ])
          refine wl_skip rfl ?_
          (try simp only [Act.put, List.setIfInBounds_toArray, List.set_cons_zero, List.set_cons_succ])
          refine wl_skip rfl ?_
          (try simp only [Act.put, List.setIfInBounds_toArray, List.set_cons_zero, List.set_cons_succ])
          refine wl_skip rfl ?_
          (try simp only [Act.put, List.setIfInBounds_toArray, List.set_cons_zero, List.set_cons_succ])
          refine wl_skip rfl ?_
          (try simp only [Act.put, List.setIfInBounds_toArray, List.set_cons_zero, List.set_cons_succ])
          refine wl_give rfl (g_pickf _ _ _ (.bool false) rfl rfl ?_)
          (try simp only [Act.put, List.setIfInBounds_toArray, List.set_cons_zero, List.set_cons_succ])
          refine wl_nil ?_
          refine hK98 _ _ ?_
          (try clear hK98 K98)
          refine wp_cond_false rfl ?_
          refine wp_exit ?_
          refine hK85 _ _ ?_
          (try clear hK85 K85)
          refine wp_seq_k (fun K99 hK99 => ?_)
          refine wl_region ?_
          refine wl_give rfl (g_move _ (.pointer (some ⟨p9, 0, none⟩)) rfl ?_)
          (try simp only [Act.put, List.setIfInBounds_toArray, List.set_cons_zero, List.set_cons_succ])
          refine wl_give rfl (g_call 11 _ _ [.pointer (some ⟨p9, 0, none⟩)] (kf11 _ _) rfl ((wat_any hM).mono ?_))
          rintro e w100 ⟨rfl, t_⟩
          refine ⟨_, rfl, ?_⟩
          replace hM := hM.call t_
          clear t_
          (try simp only [Act.put, List.setIfInBounds_toArray, List.set_cons_zero, List.set_cons_succ])
          refine wl_give rfl (g_move _ (.slice ao1 (a) (cap1)) rfl ?_)
          (try simp only [Act.put, List.setIfInBounds_toArray, List.set_cons_zero, List.set_cons_succ])
          refine wl_give rfl (g_len _ 45 23 ao1 a cap1 (((a : Nat) : Int)) Tryd.underlying45 rfl rfl ?_)
          (try simp only [Act.put, List.setIfInBounds_toArray, List.set_cons_zero, List.set_cons_succ])
          refine wl_give rfl (g_ieq 3 _ _ .i64 (((a : Nat) : Int)) (((a : Nat) : Int)) true rfl rfl (decide_eq_true rfl) ?_)
          (try simp only [Act.put, List.setIfInBounds_toArray, List.set_cons_zero, List.set_cons_succ])
          refine wl_give rfl (g_move _ (.bool true) rfl ?_)
          (try simp only [Act.put, List.setIfInBounds_toArray, List.set_cons_zero, List.set_cons_succ])
          refine wl_give rfl (g_move _ (.pointer (some ⟨p12, 0, none⟩)) rfl ?_)
          (try simp only [Act.put, List.setIfInBounds_toArray, List.set_cons_zero, List.set_cons_succ])
          refine wl_give rfl (g_call 11 _ _ [.pointer (some ⟨p12, 0, none⟩)] (kf11 _ _) rfl ((wat_any (show Ms w w100 [wk p12 (k) L (b) m2, wk p9 (k) L (a) m1, row 23 32 (.slice ao1 a cap1) (a) (kl k L a), row 23 32 (.slice ao2 b cap2) (b) (kl k L b), blk (w.heap.size) (kc (s)) 23] from (hM.up 1 rfl))).mono ?_))
          rintro e w101 ⟨rfl, t_⟩
          refine ⟨_, rfl, ?_⟩
          replace hM := hM.call t_
          clear t_
          (try simp only [Act.put, List.setIfInBounds_toArray, List.set_cons_zero, List.set_cons_succ])
          refine wl_give rfl (g_move _ (.slice ao2 (b) (cap2)) rfl ?_)
          (try simp only [Act.put, List.setIfInBounds_toArray, List.set_cons_zero, List.set_cons_succ])
          refine wl_give rfl (g_len _ 45 23 ao2 b cap2 (((b : Nat) : Int)) Tryd.underlying45 rfl rfl ?_)
          (try simp only [Act.put, List.setIfInBounds_toArray, List.set_cons_zero, List.set_cons_succ])
          refine wl_give rfl (g_ieq 3 _ _ .i64 (((b : Nat) : Int)) (((b : Nat) : Int)) true rfl rfl (decide_eq_true rfl) ?_)
          (try simp only [Act.put, List.setIfInBounds_toArray, List.set_cons_zero, List.set_cons_succ])
          refine wl_give rfl (g_pickt _ _ _ (.bool true) rfl rfl ?_)
          (try simp only [Act.put, List.setIfInBounds_toArray, List.set_cons_zero, List.set_cons_succ])
          refine wl_give rfl (g_assign _ (.bool true) rfl ?_)
          (try simp only [Act.put, List.setIfInBounds_toArray, List.set_cons_zero, List.set_cons_succ])
          refine wl_nil ?_
          refine hK99 _ _ ?_
          (try clear hK99 K99)
          refine wp_ret ?_
          go_ret
          exact ⟨rfl, hM.below⟩
theorem walk (l0 : List UInt8) (h0 : l0.length = 32) (n : Int) (hn : (Lit.int .u8 n).wf = true) (ao : Option Addr) (c cap : Nat) (bs : Nat → Bool) (w : World) (hbs : LV w ao c (fun j => .bool (bs j))) (hT : Tabs w) : Calls Tryd.prog 7 #[.agg (bc l0).toArray, .int .u8 n, .slice ao c cap] w fun e w' => e = .returned (.bool true) ∧ Below w.heap.size w w' := by
  obtain ⟨F, eF, hF⟩ := rem_nat n 40 (by decide) (in_u8 hn).1
  have g : ∀ x : Int, -9223372036854775808 ≤ x → x ≤ 9223372036854775807 → Shut (IntKind.i64.wrap x = x) := fun x a b => ⟨wrap_id x a b⟩
  obtain ⟨L, hL⟩ : ∃ L, tg ⟨l0, h0⟩ chainW = L := ⟨_, rfl⟩
  exact walk_a ⟨l0, h0⟩ n ao c cap bs w hbs hT F (F + 1) L ⟨eF⟩ (g _ (by omega) (by omega)) (g _ (by omega) (by omega)) (by omega) (by omega) ⟨hL⟩
end Go.Proofs.YtdfpnicpcndkjaaDoor.pebbleTwo
