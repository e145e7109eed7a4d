/- PebbleSkips: the walk. -/
import Derived.Test.YtdfpnicpcndkjaaDoorAwake
import Derived.WalkKit
import Derived.WalkSpells
import Derived.WalkLawsBesides
namespace Go.Proofs.YtdfpnicpcndkjaaDoor.pebbleSkips
set_option maxRecDepth 10000
open Go Go.RowKit
set_option linter.unusedVariables false
set_option linter.unusedSimpArgs false

set_option maxHeartbeats 4000000 in
theorem walk_a (s : Ky) (n a b : Int) (w : World) (hT : Tabs w) (F : Int) (k x y lo hi : Nat) (L Y : Ky) (eF : Shut (n.tmod 40 = F)) (wF : Shut (IntKind.i64.wrap F = F)) (ek : Shut (IntKind.i64.wrap (F + 1) = ((k : Nat) : Int))) (ek1 : Shut (IntKind.i64.wrap (((k : Nat) : Int) + 1) = ((k + 1 : Nat) : Int))) (wa : Shut (IntKind.i64.wrap a = a)) (wb : Shut (IntKind.i64.wrap b = b)) (ex : Shut (a.tmod ((k + 1 : Nat) : Int) = ((x : Nat) : Int))) (ey : Shut (b.tmod ((k + 1 : Nat) : Int) = ((y : Nat) : Int))) (hmax : Shut (max ((x : Nat) : Int) ((y : Nat) : Int) = ((hi : Nat) : Int))) (hmin : Shut (min ((x : Nat) : Int) ((y : Nat) : Int) = ((lo : Nat) : Int))) (hxy : Shut (((x : Nat) : Int) = ((y : Nat) : Int))) (h1 : 1 ≤ k) (h2 : k ≤ 40) (hhi : hi ≤ k) (hL : Shut (tg s chainW = L)) (hS1 : Shut (sk k 0 ((lo : Nat) : Int) = (0, lo))) (hS2 : Shut (sk k lo ((hi : Nat) : Int) = (0, hi))) (hY : Shut (nx k L hi = ((Y, 0), hi + 1))) : Calls Tryd.prog 6 #[.agg (kc s).toArray, .int .u8 n, .int .u8 a, .int .u8 b] w fun e w' => e = .returned (.bool true) ∧ Below w.heap.size w w' := by
  have h3 : k ≤ 1024 := by omega
  have hM := Ms.refl w
  go_enter Tryd.func6, Tryd.ntmps6
  refine wp_seq_k (fun K1 hK1 => ?_)
  refine wl_region ?_
  refine wl_give rfl (g_box 23 _ (kc (s)) rfl ?_)
  intro w2 t_ b_
  replace hM : Ms w w2 [blk (w.heap.size) (kc (s)) 23] := hM.new t_ b_
  clear t_ b_
  (try simp only [Act.put, List.setIfInBounds_toArray, List.set_cons_zero, List.set_cons_succ])
  refine wl_give rfl (g_assign _ (.bool false) rfl ?_)
  (try simp only [Act.put, List.setIfInBounds_toArray, List.set_cons_zero, List.set_cons_succ])
  refine wl_nil ?_
  refine hK1 _ _ ?_
  (try clear hK1 K1)
  refine wp_seq_k (fun K3 hK3 => ?_)
  refine wp_seq_k (fun K4 hK4 => ?_)
  refine wl_region ?_
  refine wl_give rfl (g_call 9 _ _ [] (kf9 _ _) rfl ((awake_any w2 (hM.tabs hT)).mono ?_))
  rintro e w5 ⟨rfl, t_⟩
  refine ⟨_, rfl, ?_⟩
  replace hM := hM.call t_
  clear t_
  (try simp only [Act.put, List.setIfInBounds_toArray, List.set_cons_zero, List.set_cons_succ])
  refine wl_give rfl (g_unot 4 _ true rfl ?_)
  (try simp only [Act.put, List.setIfInBounds_toArray, List.set_cons_zero, List.set_cons_succ])
  refine wl_nil ?_
  refine hK4 _ _ ?_
  (try clear hK4 K4)
  refine wp_cond_false rfl ?_
  refine wp_skip ?_
  refine hK3 _ _ ?_
  (try clear hK3 K3)
  refine wp_seq_k (fun K6 hK6 => ?_)
  refine wl_region ?_
  refine wl_give rfl (g_move _ (.int .u8 (n)) rfl ?_)
  (try simp only [Act.put, List.setIfInBounds_toArray, List.set_cons_zero, List.set_cons_succ])
  refine wl_give rfl (g_irem 5 _ _ .u8 (n) (40) (F) rfl rfl (by decide) eF.out ?_)
  (try simp only [Act.put, List.setIfInBounds_toArray, List.set_cons_zero, List.set_cons_succ])
  refine wl_give rfl (g_cv_5_3 _ (F) (F) rfl (wF.out) ?_)
  (try simp only [Act.put, List.setIfInBounds_toArray, List.set_cons_zero, List.set_cons_succ])
  refine wl_give rfl (g_ia 3 _ _ .i64 (F) (1) (((k : Nat) : Int)) rfl rfl ek.out ?_)
  (try simp only [Act.put, List.setIfInBounds_toArray, List.set_cons_zero, List.set_cons_succ])
  refine wl_give rfl (g_assign _ (.int .i64 (((k : Nat) : Int))) rfl ?_)
  (try simp only [Act.put, List.setIfInBounds_toArray, List.set_cons_zero, List.set_cons_succ])
  refine wl_nil ?_
  refine hK6 _ _ ?_
  (try clear hK6 K6)
  refine wp_seq_k (fun K7 hK7 => ?_)
  refine wp_region_fixed (by kernel_rfl) (by kernel_rfl) [.int .u8 (a), .int .i64 (a), .int .i64 (((k : Nat) : Int)), .int .i64 (((k + 1 : Nat) : Int)), .int .i64 (((x : Nat) : Int)), .int .u8 (b), .int .i64 (b), .int .i64 (((k : Nat) : Int)), .int .i64 (((k + 1 : Nat) : Int)), .int .i64 (((y : Nat) : Int)), .int .i64 (((x : Nat) : Int)), .int .i64 (((y : Nat) : Int))] (by rfl) (fun wx => Ms w wx [blk (w.heap.size) (kc (s)) 23]) hM.drew ?_ ?_
  · simp only [fullL, Act.put, List.setIfInBounds_toArray, List.set_cons_succ, List.set_cons_zero]
    refine ⟨?_, ?_, ?_, ?_, ?_, ?_, ?_, ?_, ?_, ?_, ?_, ?_, trivial⟩
    · exact fun wx hM => gw rfl (g_move _ (.int .u8 (a)) rfl ⟨rfl, hM⟩)
    · exact fun wx hM => gw rfl (g_cv_5_3 _ (a) (a) rfl (wa.out) ⟨rfl, hM⟩)
    · exact fun wx hM => gw rfl (g_move _ (.int .i64 (((k : Nat) : Int))) rfl ⟨rfl, hM⟩)
    · exact fun wx hM => gw rfl (g_ia 3 _ _ .i64 (((k : Nat) : Int)) (1) (((k + 1 : Nat) : Int)) rfl rfl ek1.out ⟨rfl, hM⟩)
    · exact fun wx hM => gw rfl (g_irem 3 _ _ .i64 (a) (((k + 1 : Nat) : Int)) (((x : Nat) : Int)) rfl rfl (by omega) ex.out ⟨rfl, hM⟩)
    · exact fun wx hM => gw rfl (g_move _ (.int .u8 (b)) rfl ⟨rfl, hM⟩)
    · exact fun wx hM => gw rfl (g_cv_5_3 _ (b) (b) rfl (wb.out) ⟨rfl, hM⟩)
    · exact fun wx hM => gw rfl (g_move _ (.int .i64 (((k : Nat) : Int))) rfl ⟨rfl, hM⟩)
    · exact fun wx hM => gw rfl (g_ia 3 _ _ .i64 (((k : Nat) : Int)) (1) (((k + 1 : Nat) : Int)) rfl rfl ek1.out ⟨rfl, hM⟩)
    · exact fun wx hM => gw rfl (g_irem 3 _ _ .i64 (b) (((k + 1 : Nat) : Int)) (((y : Nat) : Int)) rfl rfl (by omega) ey.out ⟨rfl, hM⟩)
    · exact fun wx hM => gw rfl (g_assign _ (.int .i64 (((x : Nat) : Int))) rfl ⟨rfl, hM⟩)
    · exact fun wx hM => gw rfl (g_assign _ (.int .i64 (((y : Nat) : Int))) rfl ⟨rfl, hM⟩)
  · simp only [fullL, Act.put, List.setIfInBounds_toArray, List.set_cons_succ, List.set_cons_zero]
    intro w8 hM
    refine hK7 _ _ ?_
    (try clear hK7 K7)
    refine wp_seq_k (fun K9 hK9 => ?_)
    refine wl_region ?_
    refine wl_give rfl (g_load_all 23 _ (w.heap.size) (kc (s)) 23 _ rfl (hM.get 0 rfl) Tryd.underlying23 rfl (szK _) ?_)
    (try simp only [Act.put, List.setIfInBounds_toArray, List.set_cons_zero, List.set_cons_succ])
    refine wl_give rfl (g_move _ (.int .i64 (((k : Nat) : Int))) rfl ?_)
    (try simp only [Act.put, List.setIfInBounds_toArray, List.set_cons_zero, List.set_cons_succ])
    refine wl_give rfl (g_call 10 _ _ [.agg (kc (s)).toArray, .int .i64 (((k : Nat) : Int))] (kf10 _ _) rfl ((wnew_any s (k) L w w8 _ hM hT h1 h3 hL).mono ?_))
    rintro e w10 ⟨p11, rfl, h_⟩
    refine ⟨_, rfl, ?_⟩
    replace hM : Ms w w10 [wk p11 (k) L (0) 1, blk (w.heap.size) (kc (s)) 23] := h_
    clear h_
    (try simp only [Act.put, List.setIfInBounds_toArray, List.set_cons_zero, List.set_cons_succ])
    refine wl_give rfl (g_move _ (.tuple #[.pointer (some ⟨p11, 0, none⟩), .int .i64 (0)]) rfl ?_)
    (try simp only [Act.put, List.setIfInBounds_toArray, List.set_cons_zero, List.set_cons_succ])
    refine wl_give rfl (g_extract _ #[.pointer (some ⟨p11, 0, none⟩), .int .i64 (0)] 0 (.pointer (some ⟨p11, 0, none⟩)) rfl rfl ?_)
    (try simp only [Act.put, List.setIfInBounds_toArray, List.set_cons_zero, List.set_cons_succ])
    refine wl_give rfl (g_extract _ #[.pointer (some ⟨p11, 0, none⟩), .int .i64 (0)] 1 (.int .i64 (0)) rfl rfl ?_)
    (try simp only [Act.put, List.setIfInBounds_toArray, List.set_cons_zero, List.set_cons_succ])
    refine wl_give rfl (g_assign _ (.pointer (some ⟨p11, 0, none⟩)) rfl ?_)
    (try simp only [Act.put, List.setIfInBounds_toArray, List.set_cons_zero, List.set_cons_succ])
    refine wl_give rfl (g_assign _ (.int .i64 (0)) rfl ?_)
    (try simp only [Act.put, List.setIfInBounds_toArray, List.set_cons_zero, List.set_cons_succ])
    refine wl_nil ?_
    refine hK9 _ _ ?_
    (try clear hK9 K9)
    refine wp_seq_k (fun K12 hK12 => ?_)
    refine wl_region ?_
    refine wl_give rfl (g_load_all 23 _ (w.heap.size) (kc (s)) 23 _ rfl (hM.get 1 rfl) Tryd.underlying23 rfl (szK _) ?_)
    (try simp only [Act.put, List.setIfInBounds_toArray, List.set_cons_zero, List.set_cons_succ])
    refine wl_give rfl (g_move _ (.int .i64 (((k : Nat) : Int))) rfl ?_)
    (try simp only [Act.put, List.setIfInBounds_toArray, List.set_cons_zero, List.set_cons_succ])
    refine wl_give rfl (g_call 10 _ _ [.agg (kc (s)).toArray, .int .i64 (((k : Nat) : Int))] (kf10 _ _) rfl ((wnew_any s (k) L w w10 _ hM hT h1 h3 hL).mono ?_))
    rintro e w13 ⟨p14, rfl, h_⟩
    refine ⟨_, rfl, ?_⟩
    replace hM : Ms w w13 [wk p14 (k) L (0) 1, wk p11 (k) L (0) 1, blk (w.heap.size) (kc (s)) 23] := h_
    clear h_
    (try simp only [Act.put, List.setIfInBounds_toArray, List.set_cons_zero, List.set_cons_succ])
    refine wl_give rfl (g_move _ (.tuple #[.pointer (some ⟨p14, 0, none⟩), .int .i64 (0)]) rfl ?_)
    (try simp only [Act.put, List.setIfInBounds_toArray, List.set_cons_zero, List.set_cons_succ])
    refine wl_give rfl (g_extract _ #[.pointer (some ⟨p14, 0, none⟩), .int .i64 (0)] 0 (.pointer (some ⟨p14, 0, none⟩)) rfl rfl ?_)
    (try simp only [Act.put, List.setIfInBounds_toArray, List.set_cons_zero, List.set_cons_succ])
    refine wl_give rfl (g_extract _ #[.pointer (some ⟨p14, 0, none⟩), .int .i64 (0)] 1 (.int .i64 (0)) rfl rfl ?_)
    (try simp only [Act.put, List.setIfInBounds_toArray, List.set_cons_zero, List.set_cons_succ])
    refine wl_give rfl (g_assign _ (.pointer (some ⟨p14, 0, none⟩)) rfl ?_)
    (try simp only [Act.put, List.setIfInBounds_toArray, List.set_cons_zero, List.set_cons_succ])
    refine wl_give rfl (g_assign _ (.int .i64 (0)) rfl ?_)
    (try simp only [Act.put, List.setIfInBounds_toArray, List.set_cons_zero, List.set_cons_succ])
    refine wl_nil ?_
    refine hK12 _ _ ?_
    (try clear hK12 K12)
    refine wp_seq_k (fun K15 hK15 => ?_)
    refine wp_seq_k (fun K16 hK16 => ?_)
    refine wl_region ?_
    refine wl_give rfl (g_move _ (.pointer (some ⟨p11, 0, none⟩)) rfl ?_)
    (try simp only [Act.put, List.setIfInBounds_toArray, List.set_cons_zero, List.set_cons_succ])
    refine wl_give rfl (g_peq _ ((some ⟨p11, 0, none⟩)) false rfl rfl ?_)
    (try simp only [Act.put, List.setIfInBounds_toArray, List.set_cons_zero, List.set_cons_succ])
    refine wl_give rfl (g_move _ (.bool false) rfl ?_)
    (try simp only [Act.put, List.setIfInBounds_toArray, List.set_cons_zero, List.set_cons_succ])
    refine wl_give rfl (g_move _ (.pointer (some ⟨p14, 0, none⟩)) rfl ?_)
    (try simp only [Act.put, List.setIfInBounds_toArray, List.set_cons_zero, List.set_cons_succ])
    refine wl_give rfl (g_peq _ ((some ⟨p14, 0, none⟩)) false rfl rfl ?_)
    (try simp only [Act.put, List.setIfInBounds_toArray, List.set_cons_zero, List.set_cons_succ])
    refine wl_give rfl (g_pickf _ _ _ (.bool false) rfl rfl ?_)
    (try simp only [Act.put, List.setIfInBounds_toArray, List.set_cons_zero, List.set_cons_succ])
    refine wl_give rfl (g_move _ (.bool false) rfl ?_)
    (try simp only [Act.put, List.setIfInBounds_toArray, List.set_cons_zero, List.set_cons_succ])
    refine wl_give rfl (g_move _ (.int .i64 (0)) rfl ?_)
    (try simp only [Act.put, List.setIfInBounds_toArray, List.set_cons_zero, List.set_cons_succ])
    refine wl_give rfl (g_ine 27 _ _ .i64 (0) (0) false rfl rfl (by decide) ?_)
    (try simp only [Act.put, List.setIfInBounds_toArray, List.set_cons_zero, List.set_cons_succ])
    refine wl_give rfl (g_pickf _ _ _ (.bool false) rfl rfl ?_)
    (try simp only [Act.put, List.setIfInBounds_toArray, List.set_cons_zero, List.set_cons_succ])
    refine wl_give rfl (g_move _ (.bool false) rfl ?_)
    (try simp only [Act.put, List.setIfInBounds_toArray, List.set_cons_zero, List.set_cons_succ])
    refine wl_give rfl (g_move _ (.int .i64 (0)) rfl ?_)
    (try simp only [Act.put, List.setIfInBounds_toArray, List.set_cons_zero, List.set_cons_succ])
    refine wl_give rfl (g_ine 27 _ _ .i64 (0) (0) false rfl rfl (by decide) ?_)
    (try simp only [Act.put, List.setIfInBounds_toArray, List.set_cons_zero, List.set_cons_succ])
    refine wl_give rfl (g_pickf _ _ _ (.bool false) rfl rfl ?_)
    (try simp only [Act.put, List.setIfInBounds_toArray, List.set_cons_zero, List.set_cons_succ])
    refine wl_nil ?_
    refine hK16 _ _ ?_
    (try clear hK16 K16)
    refine wp_cond_false rfl ?_
    refine wp_skip ?_
    refine hK15 _ _ ?_
    (try clear hK15 K15)
    refine wp_seq_k (fun K17 hK17 => ?_)
    refine wp_seq_k (fun K18 hK18 => ?_)
    refine wl_region ?_
    refine wl_give rfl (g_assign _ (.int .i64 (0)) rfl ?_)
    (try simp only [Act.put, List.setIfInBounds_toArray, List.set_cons_zero, List.set_cons_succ])
    refine wl_nil ?_
    refine hK18 _ _ ?_
    (try clear hK18 K18)
    refine wp_block ?_
    go_loopw [16] (fun u wr => ∃ i m : Nat, i ≤ hi ∧ u = .int .i64 ((i : Nat) : Int) ∧ Ms w wr [wk p14 (k) L (i) m, wk p11 (k) L (0) 1, blk (w.heap.size) (kc (s)) 23]) (fun u _ => (hi - intOf u).toNat)
    case atStart => exact ⟨0, _, by omega, rfl, hM⟩
    case round =>
      clear hM
      obtain ⟨i, m, hi2, rfl, hM⟩ := hrel
      by_cases hlt : ((i : Nat) : Int) < ((hi : Nat) : Int)
      · skip
        obtain ⟨X, hX0⟩ : ∃ X, wl (k - i) L = X := ⟨_, rfl⟩
        have hX : Shut (nx k L i = ((X, 0), i + 1)) := ⟨by rw [nx_ok _ _ _ (by omega), hX0]⟩
        have ei : Shut (IntKind.i64.wrap (((i : Nat) : Int) + 1) = ((i + 1 : Nat) : Int)) := ⟨by rw [wrap_id _ (by omega) (by omega)]; omega⟩
        clear hX0
        refine wp_seq_k (fun K19 hK19 => ?_)
        refine wp_seq_k (fun K20 hK20 => ?_)
        refine wl_region ?_
        refine wl_give rfl (g_move _ (.int .i64 (((i : Nat) : Int))) rfl ?_)
        (try simp only [Act.put, List.setIfInBounds_toArray, List.set_cons_zero, List.set_cons_succ])
        refine wl_give rfl (g_move _ (.int .i64 (((x : Nat) : Int))) rfl ?_)
        (try simp only [Act.put, List.setIfInBounds_toArray, List.set_cons_zero, List.set_cons_succ])
        refine wl_give rfl (g_move _ (.int .i64 (((y : Nat) : Int))) rfl ?_)
        (try simp only [Act.put, List.setIfInBounds_toArray, List.set_cons_zero, List.set_cons_succ])
        refine wl_give rfl (g_max _ _ (((x : Nat) : Int)) (((y : Nat) : Int)) (((hi : Nat) : Int)) rfl rfl (hmax.out) ?_)
        (try simp only [Act.put, List.setIfInBounds_toArray, List.set_cons_zero, List.set_cons_succ])
        refine wl_give rfl (g_ilss 3 _ _ .i64 (((i : Nat) : Int)) (((hi : Nat) : Int)) true rfl rfl (decide_eq_true hlt) ?_)
        (try simp only [Act.put, List.setIfInBounds_toArray, List.set_cons_zero, List.set_cons_succ])
        refine wl_nil ?_
        refine hK20 _ _ ?_
        (try clear hK20 K20)
        refine wp_cond_true rfl ?_
        refine wp_skip ?_
        refine hK19 _ _ ?_
        (try clear hK19 K19)
        refine wp_seq_k (fun K21 hK21 => ?_)
        refine wp_block ?_
        refine wl_region ?_
        refine wl_give rfl (g_move _ (.pointer (some ⟨p14, 0, none⟩)) rfl ?_)
        (try simp only [Act.put, List.setIfInBounds_toArray, List.set_cons_zero, List.set_cons_succ])
        refine wl_give rfl (g_call 15 _ _ [.pointer (some ⟨p14, 0, none⟩)] (kf15 _ _) rfl ((pnext_any hM hT X 0 (i + 1) hX).mono ?_))
        rintro e w22 ⟨m23, rfl, h_⟩
        refine ⟨_, rfl, ?_⟩
        replace hM : Ms w w22 [wk p14 (k) L (i + 1) m23, wk p11 (k) L (0) 1, blk (w.heap.size) (kc (s)) 23] := h_
        clear h_
        (try simp only [Act.put, List.setIfInBounds_toArray, List.set_cons_zero, List.set_cons_succ])
        refine wl_nil ?_
        refine hK21 _ _ ?_
        (try clear hK21 K21)
        refine wl_region ?_
        refine wl_give rfl (g_move _ (.int .i64 (((i : Nat) : Int))) rfl ?_)
        (try simp only [Act.put, List.setIfInBounds_toArray, List.set_cons_zero, List.set_cons_succ])
        refine wl_give rfl (g_ia 3 _ _ .i64 (((i : Nat) : Int)) (1) (((i + 1 : Nat) : Int)) rfl rfl ei.out ?_)
        (try simp only [Act.put, List.setIfInBounds_toArray, List.set_cons_zero, List.set_cons_succ])
        refine wl_give rfl (g_assign _ (.int .i64 (((i + 1 : Nat) : Int))) rfl ?_)
        (try simp only [Act.put, List.setIfInBounds_toArray, List.set_cons_zero, List.set_cons_succ])
        refine wl_nil ?_
        (try simp only [Exit.then, Exit.inBlock, ↓reduceIte, Nat.reduceEqDiff])
        go_roundw
        case rel => exact ⟨i + 1, _, by omega, rfl, (((hM.up 2 rfl).up 2 rfl).up 2 rfl)⟩
        case measure => simp [intOf]; omega
      · obtain rfl : hi = i := by omega
        refine wp_seq_k (fun K24 hK24 => ?_)
        refine wp_seq_k (fun K25 hK25 => ?_)
        refine wl_region ?_
        refine wl_give rfl (g_move _ (.int .i64 (((hi : Nat) : Int))) rfl ?_)
        (try simp only [Act.put, List.setIfInBounds_toArray, List.set_cons_zero, List.set_cons_succ])
        refine wl_give rfl (g_move _ (.int .i64 (((x : Nat) : Int))) rfl ?_)
        (try simp only [Act.put, List.setIfInBounds_toArray, List.set_cons_zero, List.set_cons_succ])
        refine wl_give rfl (g_move _ (.int .i64 (((y : Nat) : Int))) rfl ?_)
        (try simp only [Act.put, List.setIfInBounds_toArray, List.set_cons_zero, List.set_cons_succ])
        refine wl_give rfl (g_max _ _ (((x : Nat) : Int)) (((y : Nat) : Int)) (((hi : Nat) : Int)) rfl rfl (hmax.out) ?_)
        (try simp only [Act.put, List.setIfInBounds_toArray, List.set_cons_zero, List.set_cons_succ])
        refine wl_give rfl (g_ilss 3 _ _ .i64 (((hi : Nat) : Int)) (((hi : Nat) : Int)) false rfl rfl (decide_eq_false hlt) ?_)
        (try simp only [Act.put, List.setIfInBounds_toArray, List.set_cons_zero, List.set_cons_succ])
        refine wl_nil ?_
        refine hK25 _ _ ?_
        (try clear hK25 K25)
        refine wp_cond_false rfl ?_
        refine wp_exit ?_
        refine hK17 _ _ ?_
        (try clear hK17 K17)
        refine wp_seq_k (fun K26 hK26 => ?_)
        refine wp_seq_k (fun K27 hK27 => ?_)
        refine wl_region ?_
        refine wl_give rfl (g_move _ (.pointer (some ⟨p11, 0, none⟩)) rfl ?_)
        (try simp only [Act.put, List.setIfInBounds_toArray, List.set_cons_zero, List.set_cons_succ])
        refine wl_give rfl (g_move _ (.int .i64 (((x : Nat) : Int))) rfl ?_)
        (try simp only [Act.put, List.setIfInBounds_toArray, List.set_cons_zero, List.set_cons_succ])
        refine wl_give rfl (g_move _ (.int .i64 (((y : Nat) : Int))) rfl ?_)
        (try simp only [Act.put, List.setIfInBounds_toArray, List.set_cons_zero, List.set_cons_succ])
        refine wl_give rfl (g_min _ _ (((x : Nat) : Int)) (((y : Nat) : Int)) (((lo : Nat) : Int)) rfl rfl (hmin.out) ?_)
        (try simp only [Act.put, List.setIfInBounds_toArray, List.set_cons_zero, List.set_cons_succ])
        refine wl_give rfl (g_call 17 _ _ [.pointer (some ⟨p11, 0, none⟩), .int .i64 (((lo : Nat) : Int))] (kf17 _ _) rfl ((pskip_any (show Ms w wr [wk p11 (k) L (0) 1, wk p14 (k) L (hi) m, blk (w.heap.size) (kc (s)) 23] from (hM.up 1 rfl)) (((lo : Nat) : Int)) 0 (lo) hS1).mono ?_))
        rintro e w28 ⟨m29, rfl, h_⟩
        refine ⟨_, rfl, ?_⟩
        replace hM : Ms w w28 [wk p11 (k) L (lo) m29, wk p14 (k) L (hi) m, blk (w.heap.size) (kc (s)) 23] := h_
        clear h_
        (try simp only [Act.put, List.setIfInBounds_toArray, List.set_cons_zero, List.set_cons_succ])
        refine wl_give rfl (g_ine 27 _ _ .i64 (0) (0) false rfl rfl (by decide) ?_)
        (try simp only [Act.put, List.setIfInBounds_toArray, List.set_cons_zero, List.set_cons_succ])
        refine wl_give rfl (g_move _ (.bool false) rfl ?_)
        (try simp only [Act.put, List.setIfInBounds_toArray, List.set_cons_zero, List.set_cons_succ])
        refine wl_give rfl (g_move _ (.pointer (some ⟨p11, 0, none⟩)) rfl ?_)
        (try simp only [Act.put, List.setIfInBounds_toArray, List.set_cons_zero, List.set_cons_succ])
        refine wl_give rfl (g_move _ (.int .i64 (((x : Nat) : Int))) rfl ?_)
        (try simp only [Act.put, List.setIfInBounds_toArray, List.set_cons_zero, List.set_cons_succ])
        refine wl_give rfl (g_move _ (.int .i64 (((y : Nat) : Int))) rfl ?_)
        (try simp only [Act.put, List.setIfInBounds_toArray, List.set_cons_zero, List.set_cons_succ])
        refine wl_give rfl (g_max _ _ (((x : Nat) : Int)) (((y : Nat) : Int)) (((hi : Nat) : Int)) rfl rfl (hmax.out) ?_)
        (try simp only [Act.put, List.setIfInBounds_toArray, List.set_cons_zero, List.set_cons_succ])
        refine wl_give rfl (g_call 17 _ _ [.pointer (some ⟨p11, 0, none⟩), .int .i64 (((hi : Nat) : Int))] (kf17 _ _) rfl ((pskip_any hM (((hi : Nat) : Int)) 0 (hi) hS2).mono ?_))
        rintro e w30 ⟨m31, rfl, h_⟩
        refine ⟨_, rfl, ?_⟩
        replace hM : Ms w w30 [wk p11 (k) L (hi) m31, wk p14 (k) L (hi) m, blk (w.heap.size) (kc (s)) 23] := h_
        clear h_
        (try simp only [Act.put, List.setIfInBounds_toArray, List.set_cons_zero, List.set_cons_succ])
        refine wl_give rfl (g_ine 27 _ _ .i64 (0) (0) false rfl rfl (by decide) ?_)
        (try simp only [Act.put, List.setIfInBounds_toArray, List.set_cons_zero, List.set_cons_succ])
        refine wl_give rfl (g_pickf _ _ _ (.bool false) rfl rfl ?_)
        (try simp only [Act.put, List.setIfInBounds_toArray, List.set_cons_zero, List.set_cons_succ])
        refine wl_give rfl (g_move _ (.bool false) rfl ?_)
        (try simp only [Act.put, List.setIfInBounds_toArray, List.set_cons_zero, List.set_cons_succ])
        refine wl_give rfl (g_move _ (.int .i64 (((x : Nat) : Int))) rfl ?_)
        (try simp only [Act.put, List.setIfInBounds_toArray, List.set_cons_zero, List.set_cons_succ])
        refine wl_give rfl (g_move _ (.int .i64 (((y : Nat) : Int))) rfl ?_)
        (try simp only [Act.put, List.setIfInBounds_toArray, List.set_cons_zero, List.set_cons_succ])
        refine wl_give rfl (g_ine 3 _ _ .i64 (((x : Nat) : Int)) (((y : Nat) : Int)) false rfl rfl (decide_eq_false (fun h => h hxy.out)) ?_)
        (try simp only [Act.put, List.setIfInBounds_toArray, List.set_cons_zero, List.set_cons_succ])
        refine wl_give rfl (g_move _ (.bool false) rfl ?_)
        (try simp only [Act.put, List.setIfInBounds_toArray, List.set_cons_zero, List.set_cons_succ])
        refine wl_skip rfl ?_
        (try simp only [Act.put, List.setIfInBounds_toArray, List.set_cons_zero, List.set_cons_succ])
        refine wl_skip rfl ?_
        (try simp only [Act.put, List.setIfInBounds_toArray, List.set_cons_zero, List.set_cons_succ])
        refine wl_skip rfl ?_
        (try simp only [Act.put, List.setIfInBounds_toArray, List.set_cons_zero, List.set_cons_succ])
        refine wl_skip rfl ?_
        (try simp only [Act.put, List.setIfInBounds_toArray, List.set_cons_zero, List.set_cons_succ])
        refine wl_skip rfl ?_
        (try simp only [Act.put, List.setIfInBounds_toArray, List.set_cons_zero, List.set_cons_succ])
        refine wl_skip rfl ?_
        (try simp only [Act.put, List.setIfInBounds_toArray, List.set_cons_zero, List.set_cons_succ])
        refine wl_give rfl (g_pickf _ _ _ (.bool false) rfl rfl ?_)
        (try simp only [Act.put, List.setIfInBounds_toArray, List.set_cons_zero, List.set_cons_succ])
        refine wl_give rfl (g_pickf _ _ _ (.bool false) rfl rfl ?_)
        (try simp only [Act.put, List.setIfInBounds_toArray, List.set_cons_zero, List.set_cons_succ])
        refine wl_nil ?_
        refine hK27 _ _ ?_
        (try clear hK27 K27)
        refine wp_cond_false rfl ?_
        refine wp_skip ?_
        refine hK26 _ _ ?_
        (try clear hK26 K26)
        refine wp_seq_k (fun K32 hK32 => ?_)
        refine wl_region ?_
        refine wl_give rfl (g_move _ (.pointer (some ⟨p11, 0, none⟩)) rfl ?_)
        (try simp only [Act.put, List.setIfInBounds_toArray, List.set_cons_zero, List.set_cons_succ])
        refine wl_give rfl (g_call 15 _ _ [.pointer (some ⟨p11, 0, none⟩)] (kf15 _ _) rfl ((pnext_any hM hT Y 0 (hi + 1) hY).mono ?_))
        rintro e w33 ⟨m34, rfl, h_⟩
        refine ⟨_, rfl, ?_⟩
        replace hM : Ms w w33 [wk p11 (k) L (hi + 1) m34, wk p14 (k) L (hi) m, blk (w.heap.size) (kc (s)) 23] := h_
        clear h_
        (try simp only [Act.put, List.setIfInBounds_toArray, List.set_cons_zero, List.set_cons_succ])
        refine wl_give rfl (g_move _ (.tuple #[.agg (kc (Y)).toArray, .int .i64 (0)]) rfl ?_)
        (try simp only [Act.put, List.setIfInBounds_toArray, List.set_cons_zero, List.set_cons_succ])
        refine wl_give rfl (g_extract _ #[.agg (kc (Y)).toArray, .int .i64 (0)] 0 (.agg (kc (Y)).toArray) rfl rfl ?_)
        (try simp only [Act.put, List.setIfInBounds_toArray, List.set_cons_zero, List.set_cons_succ])
        refine wl_give rfl (g_extract _ #[.agg (kc (Y)).toArray, .int .i64 (0)] 1 (.int .i64 (0)) rfl rfl ?_)
        (try simp only [Act.put, List.setIfInBounds_toArray, List.set_cons_zero, List.set_cons_succ])
        refine wl_give rfl (g_alloc 23 (kc (zk)) zeroK ?_)
        intro w35 t_ b_
        replace hM : Ms w w35 [blk (w33.heap.size) (kc (zk)) 23, wk p11 (k) L (hi + 1) m34, wk p14 (k) L (hi) m, blk (w.heap.size) (kc (s)) 23] := hM.new t_ b_
        clear t_ b_
        (try simp only [Act.put, List.setIfInBounds_toArray, List.set_cons_zero, List.set_cons_succ])
        refine wl_give rfl (g_store_all 23 _ _ (w33.heap.size) (kc (Y)) _ 23 rfl rfl (hM.get 0 rfl) (szK _) (kk_len _ _) (one_kc _) ?_)
        intro w36 t_ b_
        replace hM : Ms w w36 [blk (w33.heap.size) (kc (Y)) 23, wk p11 (k) L (hi + 1) m34, wk p14 (k) L (hi) m, blk (w.heap.size) (kc (s)) 23] := hM.put 0 rfl t_ b_
        clear t_ b_
        (try simp only [Act.put, List.setIfInBounds_toArray, List.set_cons_zero, List.set_cons_succ])
        refine wl_give rfl (g_assign _ (.int .i64 (0)) rfl ?_)
        (try simp only [Act.put, List.setIfInBounds_toArray, List.set_cons_zero, List.set_cons_succ])
        refine wl_nil ?_
        refine hK32 _ _ ?_
        (try clear hK32 K32)
        refine wp_seq_k (fun K37 hK37 => ?_)
        refine wl_region ?_
        refine wl_give rfl (g_move _ (.pointer (some ⟨p14, 0, none⟩)) rfl ?_)
        (try simp only [Act.put, List.setIfInBounds_toArray, List.set_cons_zero, List.set_cons_succ])
        refine wl_give rfl (g_call 15 _ _ [.pointer (some ⟨p14, 0, none⟩)] (kf15 _ _) rfl ((pnext_any (show Ms w w36 [wk p14 (k) L (hi) m, blk (w33.heap.size) (kc (Y)) 23, wk p11 (k) L (hi + 1) m34, blk (w.heap.size) (kc (s)) 23] from (hM.up 2 rfl)) hT Y 0 (hi + 1) hY).mono ?_))
        rintro e w38 ⟨m39, rfl, h_⟩
        refine ⟨_, rfl, ?_⟩
        replace hM : Ms w w38 [wk p14 (k) L (hi + 1) m39, blk (w33.heap.size) (kc (Y)) 23, wk p11 (k) L (hi + 1) m34, blk (w.heap.size) (kc (s)) 23] := h_
        clear h_
        (try simp only [Act.put, List.setIfInBounds_toArray, List.set_cons_zero, List.set_cons_succ])
        refine wl_give rfl (g_move _ (.tuple #[.agg (kc (Y)).toArray, .int .i64 (0)]) rfl ?_)
        (try simp only [Act.put, List.setIfInBounds_toArray, List.set_cons_zero, List.set_cons_succ])
        refine wl_give rfl (g_extract _ #[.agg (kc (Y)).toArray, .int .i64 (0)] 0 (.agg (kc (Y)).toArray) rfl rfl ?_)
        (try simp only [Act.put, List.setIfInBounds_toArray, List.set_cons_zero, List.set_cons_succ])
        refine wl_give rfl (g_extract _ #[.agg (kc (Y)).toArray, .int .i64 (0)] 1 (.int .i64 (0)) rfl rfl ?_)
        (try simp only [Act.put, List.setIfInBounds_toArray, List.set_cons_zero, List.set_cons_succ])
        refine wl_give rfl (g_alloc 23 (kc (zk)) zeroK ?_)
        intro w40 t_ b_
        replace hM : Ms w w40 [blk (w38.heap.size) (kc (zk)) 23, wk p14 (k) L (hi + 1) m39, blk (w33.heap.size) (kc (Y)) 23, wk p11 (k) L (hi + 1) m34, blk (w.heap.size) (kc (s)) 23] := hM.new t_ b_
        clear t_ b_
        (try simp only [Act.put, List.setIfInBounds_toArray, List.set_cons_zero, List.set_cons_succ])
        refine wl_give rfl (g_store_all 23 _ _ (w38.heap.size) (kc (Y)) _ 23 rfl rfl (hM.get 0 rfl) (szK _) (kk_len _ _) (one_kc _) ?_)
        intro w41 t_ b_
        replace hM : Ms w w41 [blk (w38.heap.size) (kc (Y)) 23, wk p14 (k) L (hi + 1) m39, blk (w33.heap.size) (kc (Y)) 23, wk p11 (k) L (hi + 1) m34, blk (w.heap.size) (kc (s)) 23] := hM.put 0 rfl t_ b_
        clear t_ b_
        (try simp only [Act.put, List.setIfInBounds_toArray, List.set_cons_zero, List.set_cons_succ])
        refine wl_give rfl (g_assign _ (.int .i64 (0)) rfl ?_)
        (try simp only [Act.put, List.setIfInBounds_toArray, List.set_cons_zero, List.set_cons_succ])
        refine wl_nil ?_
        refine hK37 _ _ ?_
        (try clear hK37 K37)
        refine wp_seq_k (fun K42 hK42 => ?_)
        refine wl_region ?_
        refine wl_give rfl (g_load_all 23 _ (w33.heap.size) (kc (Y)) 23 _ rfl (hM.get 2 rfl) Tryd.underlying23 rfl (szK _) ?_)
        (try simp only [Act.put, List.setIfInBounds_toArray, List.set_cons_zero, List.set_cons_succ])
        refine wl_give rfl (g_load_all 23 _ (w38.heap.size) (kc (Y)) 23 _ rfl (hM.get 0 rfl) Tryd.underlying23 rfl (szK _) ?_)
        (try simp only [Act.put, List.setIfInBounds_toArray, List.set_cons_zero, List.set_cons_succ])
        refine wl_give rfl (g_eqlK _ _ (Y) (Y) true rfl rfl (decide_eq_true rfl) ?_)
        (try simp only [Act.put, List.setIfInBounds_toArray, List.set_cons_zero, List.set_cons_succ])
        refine wl_give rfl (g_move _ (.bool true) rfl ?_)
        (try simp only [Act.put, List.setIfInBounds_toArray, List.set_cons_zero, List.set_cons_succ])
        refine wl_give rfl (g_move _ (.int .i64 (0)) rfl ?_)
        (try simp only [Act.put, List.setIfInBounds_toArray, List.set_cons_zero, List.set_cons_succ])
        refine wl_give rfl (g_move _ (.int .i64 (0)) rfl ?_)
        (try simp only [Act.put, List.setIfInBounds_toArray, List.set_cons_zero, List.set_cons_succ])
        refine wl_give rfl (g_ieq 27 _ _ .i64 (0) (0) true rfl rfl (by decide) ?_)
        (try simp only [Act.put, List.setIfInBounds_toArray, List.set_cons_zero, List.set_cons_succ])
        refine wl_give rfl (g_pickt _ _ _ (.bool true) rfl rfl ?_)
        (try simp only [Act.put, List.setIfInBounds_toArray, List.set_cons_zero, List.set_cons_succ])
        refine wl_give rfl (g_move _ (.bool true) rfl ?_)
        (try simp only [Act.put, List.setIfInBounds_toArray, List.set_cons_zero, List.set_cons_succ])
        refine wl_give rfl (g_move _ (.int .i64 (0)) rfl ?_)
        (try simp only [Act.put, List.setIfInBounds_toArray, List.set_cons_zero, List.set_cons_succ])
        refine wl_give rfl (g_ieq 27 _ _ .i64 (0) (0) true rfl rfl (by decide) ?_)
        (try simp only [Act.put, List.setIfInBounds_toArray, List.set_cons_zero, List.set_cons_succ])
        refine wl_give rfl (g_pickt _ _ _ (.bool true) rfl rfl ?_)
        (try simp only [Act.put, List.setIfInBounds_toArray, List.set_cons_zero, List.set_cons_succ])
        refine wl_give rfl (g_move _ (.bool true) rfl ?_)
        (try simp only [Act.put, List.setIfInBounds_toArray, List.set_cons_zero, List.set_cons_succ])
        refine wl_give rfl (g_move _ (.pointer (some ⟨p11, 0, none⟩)) rfl ?_)
        (try simp only [Act.put, List.setIfInBounds_toArray, List.set_cons_zero, List.set_cons_succ])
        refine wl_give rfl (g_move _ (.int .i64 (((k : Nat) : Int))) rfl ?_)
        (try simp only [Act.put, List.setIfInBounds_toArray, List.set_cons_zero, List.set_cons_succ])
        refine wl_give rfl (g_ia 3 _ _ .i64 (((k : Nat) : Int)) (1) (((k + 1 : Nat) : Int)) rfl rfl ek1.out ?_)
        (try simp only [Act.put, List.setIfInBounds_toArray, List.set_cons_zero, List.set_cons_succ])
        refine wl_give rfl (g_call 17 _ _ [.pointer (some ⟨p11, 0, none⟩), .int .i64 (((k + 1 : Nat) : Int))] (kf17 _ _) rfl ((pskip_no (show Ms w w41 [wk p11 (k) L (hi + 1) m34, blk (w38.heap.size) (kc (Y)) 23, wk p14 (k) L (hi + 1) m39, blk (w33.heap.size) (kc (Y)) 23, blk (w.heap.size) (kc (s)) 23] from (hM.up 3 rfl)) (((k + 1 : Nat) : Int)) (.inr (by omega))).mono ?_))
        rintro e w43 ⟨rfl, t_⟩
        refine ⟨_, rfl, ?_⟩
        replace hM := hM.call t_
        clear t_
        (try simp only [Act.put, List.setIfInBounds_toArray, List.set_cons_zero, List.set_cons_succ])
        refine wl_give rfl (g_ieq 27 _ _ .i64 (1) (1) true rfl rfl (by decide) ?_)
        (try simp only [Act.put, List.setIfInBounds_toArray, List.set_cons_zero, List.set_cons_succ])
        refine wl_give rfl (g_pickt _ _ _ (.bool true) rfl rfl ?_)
        (try simp only [Act.put, List.setIfInBounds_toArray, List.set_cons_zero, List.set_cons_succ])
        refine wl_give rfl (g_assign _ (.bool true) rfl ?_)
        (try simp only [Act.put, List.setIfInBounds_toArray, List.set_cons_zero, List.set_cons_succ])
        refine wl_nil ?_
        refine hK42 _ _ ?_
        (try clear hK42 K42)
        refine wp_ret ?_
        go_ret
        exact ⟨rfl, hM.below⟩
set_option maxHeartbeats 4000000 in
theorem walk_b (s : Ky) (n a b : Int) (w : World) (hT : Tabs w) (F : Int) (k x y lo hi : Nat) (L Y : Ky) (eF : Shut (n.tmod 40 = F)) (wF : Shut (IntKind.i64.wrap F = F)) (ek : Shut (IntKind.i64.wrap (F + 1) = ((k : Nat) : Int))) (ek1 : Shut (IntKind.i64.wrap (((k : Nat) : Int) + 1) = ((k + 1 : Nat) : Int))) (wa : Shut (IntKind.i64.wrap a = a)) (wb : Shut (IntKind.i64.wrap b = b)) (ex : Shut (a.tmod ((k + 1 : Nat) : Int) = ((x : Nat) : Int))) (ey : Shut (b.tmod ((k + 1 : Nat) : Int) = ((y : Nat) : Int))) (hmax : Shut (max ((x : Nat) : Int) ((y : Nat) : Int) = ((hi : Nat) : Int))) (hmin : Shut (min ((x : Nat) : Int) ((y : Nat) : Int) = ((lo : Nat) : Int))) (hxy : Shut (((x : Nat) : Int) ≠ ((y : Nat) : Int))) (hlh : lo < hi) (h1 : 1 ≤ k) (h2 : k ≤ 40) (hhi : hi ≤ k) (hL : Shut (tg s chainW = L)) (hS1 : Shut (sk k 0 ((lo : Nat) : Int) = (0, lo))) (hS2 : Shut (sk k lo ((hi : Nat) : Int) = (0, hi))) (hY : Shut (nx k L hi = ((Y, 0), hi + 1))) : Calls Tryd.prog 6 #[.agg (kc s).toArray, .int .u8 n, .int .u8 a, .int .u8 b] w fun e w' => e = .returned (.bool true) ∧ Below w.heap.size w w' := by
  have h3 : k ≤ 1024 := by omega
  have hM := Ms.refl w
  go_enter Tryd.func6, Tryd.ntmps6
  refine wp_seq_k (fun K1 hK1 => ?_)
  refine wl_region ?_
  refine wl_give rfl (g_box 23 _ (kc (s)) rfl ?_)
  intro w2 t_ b_
  replace hM : Ms w w2 [blk (w.heap.size) (kc (s)) 23] := hM.new t_ b_
  clear t_ b_
  (try simp only [Act.put, List.setIfInBounds_toArray, List.set_cons_zero, List.set_cons_succ])
  refine wl_give rfl (g_assign _ (.bool false) rfl ?_)
  (try simp only [Act.put, List.setIfInBounds_toArray, List.set_cons_zero, List.set_cons_succ])
  refine wl_nil ?_
  refine hK1 _ _ ?_
  (try clear hK1 K1)
  refine wp_seq_k (fun K3 hK3 => ?_)
  refine wp_seq_k (fun K4 hK4 => ?_)
  refine wl_region ?_
  refine wl_give rfl (g_call 9 _ _ [] (kf9 _ _) rfl ((awake_any w2 (hM.tabs hT)).mono ?_))
  rintro e w5 ⟨rfl, t_⟩
  refine ⟨_, rfl, ?_⟩
  replace hM := hM.call t_
  clear t_
  (try simp only [Act.put, List.setIfInBounds_toArray, List.set_cons_zero, List.set_cons_succ])
  refine wl_give rfl (g_unot 4 _ true rfl ?_)
  (try simp only [Act.put, List.setIfInBounds_toArray, List.set_cons_zero, List.set_cons_succ])
  refine wl_nil ?_
  refine hK4 _ _ ?_
  (try clear hK4 K4)
  refine wp_cond_false rfl ?_
  refine wp_skip ?_
  refine hK3 _ _ ?_
  (try clear hK3 K3)
  refine wp_seq_k (fun K6 hK6 => ?_)
  refine wl_region ?_
  refine wl_give rfl (g_move _ (.int .u8 (n)) rfl ?_)
  (try simp only [Act.put, List.setIfInBounds_toArray, List.set_cons_zero, List.set_cons_succ])
  refine wl_give rfl (g_irem 5 _ _ .u8 (n) (40) (F) rfl rfl (by decide) eF.out ?_)
  (try simp only [Act.put, List.setIfInBounds_toArray, List.set_cons_zero, List.set_cons_succ])
  refine wl_give rfl (g_cv_5_3 _ (F) (F) rfl (wF.out) ?_)
  (try simp only [Act.put, List.setIfInBounds_toArray, List.set_cons_zero, List.set_cons_succ])
  refine wl_give rfl (g_ia 3 _ _ .i64 (F) (1) (((k : Nat) : Int)) rfl rfl ek.out ?_)
  (try simp only [Act.put, List.setIfInBounds_toArray, List.set_cons_zero, List.set_cons_succ])
  refine wl_give rfl (g_assign _ (.int .i64 (((k : Nat) : Int))) rfl ?_)
  (try simp only [Act.put, List.setIfInBounds_toArray, List.set_cons_zero, List.set_cons_succ])
  refine wl_nil ?_
  refine hK6 _ _ ?_
  (try clear hK6 K6)
  refine wp_seq_k (fun K7 hK7 => ?_)
  refine wp_region_fixed (by kernel_rfl) (by kernel_rfl) [.int .u8 (a), .int .i64 (a), .int .i64 (((k : Nat) : Int)), .int .i64 (((k + 1 : Nat) : Int)), .int .i64 (((x : Nat) : Int)), .int .u8 (b), .int .i64 (b), .int .i64 (((k : Nat) : Int)), .int .i64 (((k + 1 : Nat) : Int)), .int .i64 (((y : Nat) : Int)), .int .i64 (((x : Nat) : Int)), .int .i64 (((y : Nat) : Int))] (by rfl) (fun wx => Ms w wx [blk (w.heap.size) (kc (s)) 23]) hM.drew ?_ ?_
  · simp only [fullL, Act.put, List.setIfInBounds_toArray, List.set_cons_succ, List.set_cons_zero]
    refine ⟨?_, ?_, ?_, ?_, ?_, ?_, ?_, ?_, ?_, ?_, ?_, ?_, trivial⟩
    · exact fun wx hM => gw rfl (g_move _ (.int .u8 (a)) rfl ⟨rfl, hM⟩)
    · exact fun wx hM => gw rfl (g_cv_5_3 _ (a) (a) rfl (wa.out) ⟨rfl, hM⟩)
    · exact fun wx hM => gw rfl (g_move _ (.int .i64 (((k : Nat) : Int))) rfl ⟨rfl, hM⟩)
    · exact fun wx hM => gw rfl (g_ia 3 _ _ .i64 (((k : Nat) : Int)) (1) (((k + 1 : Nat) : Int)) rfl rfl ek1.out ⟨rfl, hM⟩)
    · exact fun wx hM => gw rfl (g_irem 3 _ _ .i64 (a) (((k + 1 : Nat) : Int)) (((x : Nat) : Int)) rfl rfl (by omega) ex.out ⟨rfl, hM⟩)
    · exact fun wx hM => gw rfl (g_move _ (.int .u8 (b)) rfl ⟨rfl, hM⟩)
    · exact fun wx hM => gw rfl (g_cv_5_3 _ (b) (b) rfl (wb.out) ⟨rfl, hM⟩)
    · exact fun wx hM => gw rfl (g_move _ (.int .i64 (((k : Nat) : Int))) rfl ⟨rfl, hM⟩)
    · exact fun wx hM => gw rfl (g_ia 3 _ _ .i64 (((k : Nat) : Int)) (1) (((k + 1 : Nat) : Int)) rfl rfl ek1.out ⟨rfl, hM⟩)
    · exact fun wx hM => gw rfl (g_irem 3 _ _ .i64 (b) (((k + 1 : Nat) : Int)) (((y : Nat) : Int)) rfl rfl (by omega) ey.out ⟨rfl, hM⟩)
    · exact fun wx hM => gw rfl (g_assign _ (.int .i64 (((x : Nat) : Int))) rfl ⟨rfl, hM⟩)
    · exact fun wx hM => gw rfl (g_assign _ (.int .i64 (((y : Nat) : Int))) rfl ⟨rfl, hM⟩)
  · simp only [fullL, Act.put, List.setIfInBounds_toArray, List.set_cons_succ, List.set_cons_zero]
    intro w8 hM
    refine hK7 _ _ ?_
    (try clear hK7 K7)
    refine wp_seq_k (fun K9 hK9 => ?_)
    refine wl_region ?_
    refine wl_give rfl (g_load_all 23 _ (w.heap.size) (kc (s)) 23 _ rfl (hM.get 0 rfl) Tryd.underlying23 rfl (szK _) ?_)
    (try simp only [Act.put, List.setIfInBounds_toArray, List.set_cons_zero, List.set_cons_succ])
    refine wl_give rfl (g_move _ (.int .i64 (((k : Nat) : Int))) rfl ?_)
    (try simp only [Act.put, List.setIfInBounds_toArray, List.set_cons_zero, List.set_cons_succ])
    refine wl_give rfl (g_call 10 _ _ [.agg (kc (s)).toArray, .int .i64 (((k : Nat) : Int))] (kf10 _ _) rfl ((wnew_any s (k) L w w8 _ hM hT h1 h3 hL).mono ?_))
    rintro e w10 ⟨p11, rfl, h_⟩
    refine ⟨_, rfl, ?_⟩
    replace hM : Ms w w10 [wk p11 (k) L (0) 1, blk (w.heap.size) (kc (s)) 23] := h_
    clear h_
    (try simp only [Act.put, List.setIfInBounds_toArray, List.set_cons_zero, List.set_cons_succ])
    refine wl_give rfl (g_move _ (.tuple #[.pointer (some ⟨p11, 0, none⟩), .int .i64 (0)]) rfl ?_)
    (try simp only [Act.put, List.setIfInBounds_toArray, List.set_cons_zero, List.set_cons_succ])
    refine wl_give rfl (g_extract _ #[.pointer (some ⟨p11, 0, none⟩), .int .i64 (0)] 0 (.pointer (some ⟨p11, 0, none⟩)) rfl rfl ?_)
    (try simp only [Act.put, List.setIfInBounds_toArray, List.set_cons_zero, List.set_cons_succ])
    refine wl_give rfl (g_extract _ #[.pointer (some ⟨p11, 0, none⟩), .int .i64 (0)] 1 (.int .i64 (0)) rfl rfl ?_)
    (try simp only [Act.put, List.setIfInBounds_toArray, List.set_cons_zero, List.set_cons_succ])
    refine wl_give rfl (g_assign _ (.pointer (some ⟨p11, 0, none⟩)) rfl ?_)
    (try simp only [Act.put, List.setIfInBounds_toArray, List.set_cons_zero, List.set_cons_succ])
    refine wl_give rfl (g_assign _ (.int .i64 (0)) rfl ?_)
    (try simp only [Act.put, List.setIfInBounds_toArray, List.set_cons_zero, List.set_cons_succ])
    refine wl_nil ?_
    refine hK9 _ _ ?_
    (try clear hK9 K9)
    refine wp_seq_k (fun K12 hK12 => ?_)
    refine wl_region ?_
    refine wl_give rfl (g_load_all 23 _ (w.heap.size) (kc (s)) 23 _ rfl (hM.get 1 rfl) Tryd.underlying23 rfl (szK _) ?_)
    (try simp only [Act.put, List.setIfInBounds_toArray, List.set_cons_zero, List.set_cons_succ])
    refine wl_give rfl (g_move _ (.int .i64 (((k : Nat) : Int))) rfl ?_)
    (try simp only [Act.put, List.setIfInBounds_toArray, List.set_cons_zero, List.set_cons_succ])
    refine wl_give rfl (g_call 10 _ _ [.agg (kc (s)).toArray, .int .i64 (((k : Nat) : Int))] (kf10 _ _) rfl ((wnew_any s (k) L w w10 _ hM hT h1 h3 hL).mono ?_))
    rintro e w13 ⟨p14, rfl, h_⟩
    refine ⟨_, rfl, ?_⟩
    replace hM : Ms w w13 [wk p14 (k) L (0) 1, wk p11 (k) L (0) 1, blk (w.heap.size) (kc (s)) 23] := h_
    clear h_
    (try simp only [Act.put, List.setIfInBounds_toArray, List.set_cons_zero, List.set_cons_succ])
    refine wl_give rfl (g_move _ (.tuple #[.pointer (some ⟨p14, 0, none⟩), .int .i64 (0)]) rfl ?_)
    (try simp only [Act.put, List.setIfInBounds_toArray, List.set_cons_zero, List.set_cons_succ])
    refine wl_give rfl (g_extract _ #[.pointer (some ⟨p14, 0, none⟩), .int .i64 (0)] 0 (.pointer (some ⟨p14, 0, none⟩)) rfl rfl ?_)
    (try simp only [Act.put, List.setIfInBounds_toArray, List.set_cons_zero, List.set_cons_succ])
    refine wl_give rfl (g_extract _ #[.pointer (some ⟨p14, 0, none⟩), .int .i64 (0)] 1 (.int .i64 (0)) rfl rfl ?_)
    (try simp only [Act.put, List.setIfInBounds_toArray, List.set_cons_zero, List.set_cons_succ])
    refine wl_give rfl (g_assign _ (.pointer (some ⟨p14, 0, none⟩)) rfl ?_)
    (try simp only [Act.put, List.setIfInBounds_toArray, List.set_cons_zero, List.set_cons_succ])
    refine wl_give rfl (g_assign _ (.int .i64 (0)) rfl ?_)
    (try simp only [Act.put, List.setIfInBounds_toArray, List.set_cons_zero, List.set_cons_succ])
    refine wl_nil ?_
    refine hK12 _ _ ?_
    (try clear hK12 K12)
    refine wp_seq_k (fun K15 hK15 => ?_)
    refine wp_seq_k (fun K16 hK16 => ?_)
    refine wl_region ?_
    refine wl_give rfl (g_move _ (.pointer (some ⟨p11, 0, none⟩)) rfl ?_)
    (try simp only [Act.put, List.setIfInBounds_toArray, List.set_cons_zero, List.set_cons_succ])
    refine wl_give rfl (g_peq _ ((some ⟨p11, 0, none⟩)) false rfl rfl ?_)
    (try simp only [Act.put, List.setIfInBounds_toArray, List.set_cons_zero, List.set_cons_succ])
    refine wl_give rfl (g_move _ (.bool false) rfl ?_)
    (try simp only [Act.put, List.setIfInBounds_toArray, List.set_cons_zero, List.set_cons_succ])
    refine wl_give rfl (g_move _ (.pointer (some ⟨p14, 0, none⟩)) rfl ?_)
    (try simp only [Act.put, List.setIfInBounds_toArray, List.set_cons_zero, List.set_cons_succ])
    refine wl_give rfl (g_peq _ ((some ⟨p14, 0, none⟩)) false rfl rfl ?_)
    (try simp only [Act.put, List.setIfInBounds_toArray, List.set_cons_zero, List.set_cons_succ])
    refine wl_give rfl (g_pickf _ _ _ (.bool false) rfl rfl ?_)
    (try simp only [Act.put, List.setIfInBounds_toArray, List.set_cons_zero, List.set_cons_succ])
    refine wl_give rfl (g_move _ (.bool false) rfl ?_)
    (try simp only [Act.put, List.setIfInBounds_toArray, List.set_cons_zero, List.set_cons_succ])
    refine wl_give rfl (g_move _ (.int .i64 (0)) rfl ?_)
    (try simp only [Act.put, List.setIfInBounds_toArray, List.set_cons_zero, List.set_cons_succ])
    refine wl_give rfl (g_ine 27 _ _ .i64 (0) (0) false rfl rfl (by decide) ?_)
    (try simp only [Act.put, List.setIfInBounds_toArray, List.set_cons_zero, List.set_cons_succ])
    refine wl_give rfl (g_pickf _ _ _ (.bool false) rfl rfl ?_)
    (try simp only [Act.put, List.setIfInBounds_toArray, List.set_cons_zero, List.set_cons_succ])
    refine wl_give rfl (g_move _ (.bool false) rfl ?_)
    (try simp only [Act.put, List.setIfInBounds_toArray, List.set_cons_zero, List.set_cons_succ])
    refine wl_give rfl (g_move _ (.int .i64 (0)) rfl ?_)
    (try simp only [Act.put, List.setIfInBounds_toArray, List.set_cons_zero, List.set_cons_succ])
    refine wl_give rfl (g_ine 27 _ _ .i64 (0) (0) false rfl rfl (by decide) ?_)
    (try simp only [Act.put, List.setIfInBounds_toArray, List.set_cons_zero, List.set_cons_succ])
    refine wl_give rfl (g_pickf _ _ _ (.bool false) rfl rfl ?_)
    (try simp only [Act.put, List.setIfInBounds_toArray, List.set_cons_zero, List.set_cons_succ])
    refine wl_nil ?_
    refine hK16 _ _ ?_
    (try clear hK16 K16)
    refine wp_cond_false rfl ?_
    refine wp_skip ?_
    refine hK15 _ _ ?_
    (try clear hK15 K15)
    refine wp_seq_k (fun K17 hK17 => ?_)
    refine wp_seq_k (fun K18 hK18 => ?_)
    refine wl_region ?_
    refine wl_give rfl (g_assign _ (.int .i64 (0)) rfl ?_)
    (try simp only [Act.put, List.setIfInBounds_toArray, List.set_cons_zero, List.set_cons_succ])
    refine wl_nil ?_
    refine hK18 _ _ ?_
    (try clear hK18 K18)
    refine wp_block ?_
    go_loopw [16] (fun u wr => ∃ i m : Nat, i ≤ hi ∧ u = .int .i64 ((i : Nat) : Int) ∧ Ms w wr [wk p14 (k) L (i) m, wk p11 (k) L (0) 1, blk (w.heap.size) (kc (s)) 23]) (fun u _ => (hi - intOf u).toNat)
    case atStart => exact ⟨0, _, by omega, rfl, hM⟩
    case round =>
      clear hM
      obtain ⟨i, m, hi2, rfl, hM⟩ := hrel
      by_cases hlt : ((i : Nat) : Int) < ((hi : Nat) : Int)
      · skip
        obtain ⟨X, hX0⟩ : ∃ X, wl (k - i) L = X := ⟨_, rfl⟩
        have hX : Shut (nx k L i = ((X, 0), i + 1)) := ⟨by rw [nx_ok _ _ _ (by omega), hX0]⟩
        have ei : Shut (IntKind.i64.wrap (((i : Nat) : Int) + 1) = ((i + 1 : Nat) : Int)) := ⟨by rw [wrap_id _ (by omega) (by omega)]; omega⟩
        clear hX0
        refine wp_seq_k (fun K19 hK19 => ?_)
        refine wp_seq_k (fun K20 hK20 => ?_)
        refine wl_region ?_
        refine wl_give rfl (g_move _ (.int .i64 (((i : Nat) : Int))) rfl ?_)
        (try simp only [Act.put, List.setIfInBounds_toArray, List.set_cons_zero, List.set_cons_succ])
        refine wl_give rfl (g_move _ (.int .i64 (((x : Nat) : Int))) rfl ?_)
        (try simp only [Act.put, List.setIfInBounds_toArray, List.set_cons_zero, List.set_cons_succ])
        refine wl_give rfl (g_move _ (.int .i64 (((y : Nat) : Int))) rfl ?_)
        (try simp only [Act.put, List.setIfInBounds_toArray, List.set_cons_zero, List.set_cons_succ])
        refine wl_give rfl (g_max _ _ (((x : Nat) : Int)) (((y : Nat) : Int)) (((hi : Nat) : Int)) rfl rfl (hmax.out) ?_)
        (try simp only [Act.put, List.setIfInBounds_toArray, List.set_cons_zero, List.set_cons_succ])
        refine wl_give rfl (g_ilss 3 _ _ .i64 (((i : Nat) : Int)) (((hi : Nat) : Int)) true rfl rfl (decide_eq_true hlt) ?_)
        (try simp only [Act.put, List.setIfInBounds_toArray, List.set_cons_zero, List.set_cons_succ])
        refine wl_nil ?_
        refine hK20 _ _ ?_
        (try clear hK20 K20)
        refine wp_cond_true rfl ?_
        refine wp_skip ?_
        refine hK19 _ _ ?_
        (try clear hK19 K19)
        refine wp_seq_k (fun K21 hK21 => ?_)
        refine wp_block ?_
        refine wl_region ?_
        refine wl_give rfl (g_move _ (.pointer (some ⟨p14, 0, none⟩)) rfl ?_)
        (try simp only [Act.put, List.setIfInBounds_toArray, List.set_cons_zero, List.set_cons_succ])
        refine wl_give rfl (g_call 15 _ _ [.pointer (some ⟨p14, 0, none⟩)] (kf15 _ _) rfl ((pnext_any hM hT X 0 (i + 1) hX).mono ?_))
        rintro e w22 ⟨m23, rfl, h_⟩
        refine ⟨_, rfl, ?_⟩
        replace hM : Ms w w22 [wk p14 (k) L (i + 1) m23, wk p11 (k) L (0) 1, blk (w.heap.size) (kc (s)) 23] := h_
        clear h_
        (try simp only [Act.put, List.setIfInBounds_toArray, List.set_cons_zero, List.set_cons_succ])
        refine wl_nil ?_
        refine hK21 _ _ ?_
        (try clear hK21 K21)
        refine wl_region ?_
        refine wl_give rfl (g_move _ (.int .i64 (((i : Nat) : Int))) rfl ?_)
        (try simp only [Act.put, List.setIfInBounds_toArray, List.set_cons_zero, List.set_cons_succ])
        refine wl_give rfl (g_ia 3 _ _ .i64 (((i : Nat) : Int)) (1) (((i + 1 : Nat) : Int)) rfl rfl ei.out ?_)
        (try simp only [Act.put, List.setIfInBounds_toArray, List.set_cons_zero, List.set_cons_succ])
        refine wl_give rfl (g_assign _ (.int .i64 (((i + 1 : Nat) : Int))) rfl ?_)
        (try simp only [Act.put, List.setIfInBounds_toArray, List.set_cons_zero, List.set_cons_succ])
        refine wl_nil ?_
        (try simp only [Exit.then, Exit.inBlock, ↓reduceIte, Nat.reduceEqDiff])
        go_roundw
        case rel => exact ⟨i + 1, _, by omega, rfl, (((hM.up 2 rfl).up 2 rfl).up 2 rfl)⟩
        case measure => simp [intOf]; omega
      · obtain rfl : hi = i := by omega
        refine wp_seq_k (fun K24 hK24 => ?_)
        refine wp_seq_k (fun K25 hK25 => ?_)
        refine wl_region ?_
        refine wl_give rfl (g_move _ (.int .i64 (((hi : Nat) : Int))) rfl ?_)
        (try simp only [Act.put, List.setIfInBounds_toArray, List.set_cons_zero, List.set_cons_succ])
        refine wl_give rfl (g_move _ (.int .i64 (((x : Nat) : Int))) rfl ?_)
        (try simp only [Act.put, List.setIfInBounds_toArray, List.set_cons_zero, List.set_cons_succ])
        refine wl_give rfl (g_move _ (.int .i64 (((y : Nat) : Int))) rfl ?_)
        (try simp only [Act.put, List.setIfInBounds_toArray, List.set_cons_zero, List.set_cons_succ])
        refine wl_give rfl (g_max _ _ (((x : Nat) : Int)) (((y : Nat) : Int)) (((hi : Nat) : Int)) rfl rfl (hmax.out) ?_)
        (try simp only [Act.put, List.setIfInBounds_toArray, List.set_cons_zero, List.set_cons_succ])
        refine wl_give rfl (g_ilss 3 _ _ .i64 (((hi : Nat) : Int)) (((hi : Nat) : Int)) false rfl rfl (decide_eq_false hlt) ?_)
        (try simp only [Act.put, List.setIfInBounds_toArray, List.set_cons_zero, List.set_cons_succ])
        refine wl_nil ?_
        refine hK25 _ _ ?_
        (try clear hK25 K25)
        refine wp_cond_false rfl ?_
        refine wp_exit ?_
        refine hK17 _ _ ?_
        (try clear hK17 K17)
        refine wp_seq_k (fun K26 hK26 => ?_)
        refine wp_seq_k (fun K27 hK27 => ?_)
        refine wl_region ?_
        refine wl_give rfl (g_move _ (.pointer (some ⟨p11, 0, none⟩)) rfl ?_)
        (try simp only [Act.put, List.setIfInBounds_toArray, List.set_cons_zero, List.set_cons_succ])
        refine wl_give rfl (g_move _ (.int .i64 (((x : Nat) : Int))) rfl ?_)
        (try simp only [Act.put, List.setIfInBounds_toArray, List.set_cons_zero, List.set_cons_succ])
        refine wl_give rfl (g_move _ (.int .i64 (((y : Nat) : Int))) rfl ?_)
        (try simp only [Act.put, List.setIfInBounds_toArray, List.set_cons_zero, List.set_cons_succ])
        refine wl_give rfl (g_min _ _ (((x : Nat) : Int)) (((y : Nat) : Int)) (((lo : Nat) : Int)) rfl rfl (hmin.out) ?_)
        (try simp only [Act.put, List.setIfInBounds_toArray, List.set_cons_zero, List.set_cons_succ])
        refine wl_give rfl (g_call 17 _ _ [.pointer (some ⟨p11, 0, none⟩), .int .i64 (((lo : Nat) : Int))] (kf17 _ _) rfl ((pskip_any (show Ms w wr [wk p11 (k) L (0) 1, wk p14 (k) L (hi) m, blk (w.heap.size) (kc (s)) 23] from (hM.up 1 rfl)) (((lo : Nat) : Int)) 0 (lo) hS1).mono ?_))
        rintro e w28 ⟨m29, rfl, h_⟩
        refine ⟨_, rfl, ?_⟩
        replace hM : Ms w w28 [wk p11 (k) L (lo) m29, wk p14 (k) L (hi) m, blk (w.heap.size) (kc (s)) 23] := h_
        clear h_
        (try simp only [Act.put, List.setIfInBounds_toArray, List.set_cons_zero, List.set_cons_succ])
        refine wl_give rfl (g_ine 27 _ _ .i64 (0) (0) false rfl rfl (by decide) ?_)
        (try simp only [Act.put, List.setIfInBounds_toArray, List.set_cons_zero, List.set_cons_succ])
        refine wl_give rfl (g_move _ (.bool false) rfl ?_)
        (try simp only [Act.put, List.setIfInBounds_toArray, List.set_cons_zero, List.set_cons_succ])
        refine wl_give rfl (g_move _ (.pointer (some ⟨p11, 0, none⟩)) rfl ?_)
        (try simp only [Act.put, List.setIfInBounds_toArray, List.set_cons_zero, List.set_cons_succ])
        refine wl_give rfl (g_move _ (.int .i64 (((x : Nat) : Int))) rfl ?_)
        (try simp only [Act.put, List.setIfInBounds_toArray, List.set_cons_zero, List.set_cons_succ])
        refine wl_give rfl (g_move _ (.int .i64 (((y : Nat) : Int))) rfl ?_)
        (try simp only [Act.put, List.setIfInBounds_toArray, List.set_cons_zero, List.set_cons_succ])
        refine wl_give rfl (g_max _ _ (((x : Nat) : Int)) (((y : Nat) : Int)) (((hi : Nat) : Int)) rfl rfl (hmax.out) ?_)
        (try simp only [Act.put, List.setIfInBounds_toArray, List.set_cons_zero, List.set_cons_succ])
        refine wl_give rfl (g_call 17 _ _ [.pointer (some ⟨p11, 0, none⟩), .int .i64 (((hi : Nat) : Int))] (kf17 _ _) rfl ((pskip_any hM (((hi : Nat) : Int)) 0 (hi) hS2).mono ?_))
        rintro e w30 ⟨m31, rfl, h_⟩
        refine ⟨_, rfl, ?_⟩
        replace hM : Ms w w30 [wk p11 (k) L (hi) m31, wk p14 (k) L (hi) m, blk (w.heap.size) (kc (s)) 23] := h_
        clear h_
        (try simp only [Act.put, List.setIfInBounds_toArray, List.set_cons_zero, List.set_cons_succ])
        refine wl_give rfl (g_ine 27 _ _ .i64 (0) (0) false rfl rfl (by decide) ?_)
        (try simp only [Act.put, List.setIfInBounds_toArray, List.set_cons_zero, List.set_cons_succ])
        refine wl_give rfl (g_pickf _ _ _ (.bool false) rfl rfl ?_)
        (try simp only [Act.put, List.setIfInBounds_toArray, List.set_cons_zero, List.set_cons_succ])
        refine wl_give rfl (g_move _ (.bool false) rfl ?_)
        (try simp only [Act.put, List.setIfInBounds_toArray, List.set_cons_zero, List.set_cons_succ])
        refine wl_give rfl (g_move _ (.int .i64 (((x : Nat) : Int))) rfl ?_)
        (try simp only [Act.put, List.setIfInBounds_toArray, List.set_cons_zero, List.set_cons_succ])
        refine wl_give rfl (g_move _ (.int .i64 (((y : Nat) : Int))) rfl ?_)
        (try simp only [Act.put, List.setIfInBounds_toArray, List.set_cons_zero, List.set_cons_succ])
        refine wl_give rfl (g_ine 3 _ _ .i64 (((x : Nat) : Int)) (((y : Nat) : Int)) true rfl rfl (decide_eq_true hxy.out) ?_)
        (try simp only [Act.put, List.setIfInBounds_toArray, List.set_cons_zero, List.set_cons_succ])
        refine wl_give rfl (g_move _ (.bool true) rfl ?_)
        (try simp only [Act.put, List.setIfInBounds_toArray, List.set_cons_zero, List.set_cons_succ])
        refine wl_give rfl (g_move _ (.pointer (some ⟨p11, 0, none⟩)) rfl ?_)
        (try simp only [Act.put, List.setIfInBounds_toArray, List.set_cons_zero, List.set_cons_succ])
        refine wl_give rfl (g_move _ (.int .i64 (((x : Nat) : Int))) rfl ?_)
        (try simp only [Act.put, List.setIfInBounds_toArray, List.set_cons_zero, List.set_cons_succ])
        refine wl_give rfl (g_move _ (.int .i64 (((y : Nat) : Int))) rfl ?_)
        (try simp only [Act.put, List.setIfInBounds_toArray, List.set_cons_zero, List.set_cons_succ])
        refine wl_give rfl (g_min _ _ (((x : Nat) : Int)) (((y : Nat) : Int)) (((lo : Nat) : Int)) rfl rfl (hmin.out) ?_)
        (try simp only [Act.put, List.setIfInBounds_toArray, List.set_cons_zero, List.set_cons_succ])
        refine wl_give rfl (g_call 17 _ _ [.pointer (some ⟨p11, 0, none⟩), .int .i64 (((lo : Nat) : Int))] (kf17 _ _) rfl ((pskip_no hM (((lo : Nat) : Int)) (.inl (by omega))).mono ?_))
        rintro e w32 ⟨rfl, t_⟩
        refine ⟨_, rfl, ?_⟩
        replace hM := hM.call t_
        clear t_
        (try simp only [Act.put, List.setIfInBounds_toArray, List.set_cons_zero, List.set_cons_succ])
        refine wl_give rfl (g_ine 27 _ _ .i64 (1) (1) false rfl rfl (by decide) ?_)
        (try simp only [Act.put, List.setIfInBounds_toArray, List.set_cons_zero, List.set_cons_succ])
        refine wl_give rfl (g_pickt _ _ _ (.bool false) rfl rfl ?_)
        (try simp only [Act.put, List.setIfInBounds_toArray, List.set_cons_zero, List.set_cons_succ])
        refine wl_give rfl (g_pickf _ _ _ (.bool false) rfl rfl ?_)
        (try simp only [Act.put, List.setIfInBounds_toArray, List.set_cons_zero, List.set_cons_succ])
        refine wl_nil ?_
        refine hK27 _ _ ?_
        (try clear hK27 K27)
        refine wp_cond_false rfl ?_
        refine wp_skip ?_
        refine hK26 _ _ ?_
        (try clear hK26 K26)
        refine wp_seq_k (fun K33 hK33 => ?_)
        refine wl_region ?_
        refine wl_give rfl (g_move _ (.pointer (some ⟨p11, 0, none⟩)) rfl ?_)
        (try simp only [Act.put, List.setIfInBounds_toArray, List.set_cons_zero, List.set_cons_succ])
        refine wl_give rfl (g_call 15 _ _ [.pointer (some ⟨p11, 0, none⟩)] (kf15 _ _) rfl ((pnext_any hM hT Y 0 (hi + 1) hY).mono ?_))
        rintro e w34 ⟨m35, rfl, h_⟩
        refine ⟨_, rfl, ?_⟩
        replace hM : Ms w w34 [wk p11 (k) L (hi + 1) m35, wk p14 (k) L (hi) m, blk (w.heap.size) (kc (s)) 23] := h_
        clear h_
        (try simp only [Act.put, List.setIfInBounds_toArray, List.set_cons_zero, List.set_cons_succ])
        refine wl_give rfl (g_move _ (.tuple #[.agg (kc (Y)).toArray, .int .i64 (0)]) rfl ?_)
        (try simp only [Act.put, List.setIfInBounds_toArray, List.set_cons_zero, List.set_cons_succ])
        refine wl_give rfl (g_extract _ #[.agg (kc (Y)).toArray, .int .i64 (0)] 0 (.agg (kc (Y)).toArray) rfl rfl ?_)
        (try simp only [Act.put, List.setIfInBounds_toArray, List.set_cons_zero, List.set_cons_succ])
        refine wl_give rfl (g_extract _ #[.agg (kc (Y)).toArray, .int .i64 (0)] 1 (.int .i64 (0)) rfl rfl ?_)
        (try simp only [Act.put, List.setIfInBounds_toArray, List.set_cons_zero, List.set_cons_succ])
        refine wl_give rfl (g_alloc 23 (kc (zk)) zeroK ?_)
        intro w36 t_ b_
        replace hM : Ms w w36 [blk (w34.heap.size) (kc (zk)) 23, wk p11 (k) L (hi + 1) m35, wk p14 (k) L (hi) m, blk (w.heap.size) (kc (s)) 23] := hM.new t_ b_
        clear t_ b_
        (try simp only [Act.put, List.setIfInBounds_toArray, List.set_cons_zero, List.set_cons_succ])
        refine wl_give rfl (g_store_all 23 _ _ (w34.heap.size) (kc (Y)) _ 23 rfl rfl (hM.get 0 rfl) (szK _) (kk_len _ _) (one_kc _) ?_)
        intro w37 t_ b_
        replace hM : Ms w w37 [blk (w34.heap.size) (kc (Y)) 23, wk p11 (k) L (hi + 1) m35, wk p14 (k) L (hi) m, blk (w.heap.size) (kc (s)) 23] := hM.put 0 rfl t_ b_
        clear t_ b_
        (try simp only [Act.put, List.setIfInBounds_toArray, List.set_cons_zero, List.set_cons_succ])
        refine wl_give rfl (g_assign _ (.int .i64 (0)) rfl ?_)
        (try simp only [Act.put, List.setIfInBounds_toArray, List.set_cons_zero, List.set_cons_succ])
        refine wl_nil ?_
        refine hK33 _ _ ?_
        (try clear hK33 K33)
        refine wp_seq_k (fun K38 hK38 => ?_)
        refine wl_region ?_
        refine wl_give rfl (g_move _ (.pointer (some ⟨p14, 0, none⟩)) rfl ?_)
        (try simp only [Act.put, List.setIfInBounds_toArray, List.set_cons_zero, List.set_cons_succ])
        refine wl_give rfl (g_call 15 _ _ [.pointer (some ⟨p14, 0, none⟩)] (kf15 _ _) rfl ((pnext_any (show Ms w w37 [wk p14 (k) L (hi) m, blk (w34.heap.size) (kc (Y)) 23, wk p11 (k) L (hi + 1) m35, blk (w.heap.size) (kc (s)) 23] from (hM.up 2 rfl)) hT Y 0 (hi + 1) hY).mono ?_))
        rintro e w39 ⟨m40, rfl, h_⟩
        refine ⟨_, rfl, ?_⟩
        replace hM : Ms w w39 [wk p14 (k) L (hi + 1) m40, blk (w34.heap.size) (kc (Y)) 23, wk p11 (k) L (hi + 1) m35, blk (w.heap.size) (kc (s)) 23] := h_
        clear h_
        (try simp only [Act.put, List.setIfInBounds_toArray, List.set_cons_zero, List.set_cons_succ])
        refine wl_give rfl (g_move _ (.tuple #[.agg (kc (Y)).toArray, .int .i64 (0)]) rfl ?_)
        (try simp only [Act.put, List.setIfInBounds_toArray, List.set_cons_zero, List.set_cons_succ])
        refine wl_give rfl (g_extract _ #[.agg (kc (Y)).toArray, .int .i64 (0)] 0 (.agg (kc (Y)).toArray) rfl rfl ?_)
        (try simp only [Act.put, List.setIfInBounds_toArray, List.set_cons_zero, List.set_cons_succ])
        refine wl_give rfl (g_extract _ #[.agg (kc (Y)).toArray, .int .i64 (0)] 1 (.int .i64 (0)) rfl rfl ?_)
        (try simp only [Act.put, List.setIfInBounds_toArray, List.set_cons_zero, List.set_cons_succ])
        refine wl_give rfl (g_alloc 23 (kc (zk)) zeroK ?_)
        intro w41 t_ b_
        replace hM : Ms w w41 [blk (w39.heap.size) (kc (zk)) 23, wk p14 (k) L (hi + 1) m40, blk (w34.heap.size) (kc (Y)) 23, wk p11 (k) L (hi + 1) m35, blk (w.heap.size) (kc (s)) 23] := hM.new t_ b_
        clear t_ b_
        (try simp only [Act.put, List.setIfInBounds_toArray, List.set_cons_zero, List.set_cons_succ])
        refine wl_give rfl (g_store_all 23 _ _ (w39.heap.size) (kc (Y)) _ 23 rfl rfl (hM.get 0 rfl) (szK _) (kk_len _ _) (one_kc _) ?_)
        intro w42 t_ b_
        replace hM : Ms w w42 [blk (w39.heap.size) (kc (Y)) 23, wk p14 (k) L (hi + 1) m40, blk (w34.heap.size) (kc (Y)) 23, wk p11 (k) L (hi + 1) m35, blk (w.heap.size) (kc (s)) 23] := hM.put 0 rfl t_ b_
        clear t_ b_
        (try simp only [Act.put, List.setIfInBounds_toArray, List.set_cons_zero, List.set_cons_succ])
        refine wl_give rfl (g_assign _ (.int .i64 (0)) rfl ?_)
        (try simp only [Act.put, List.setIfInBounds_toArray, List.set_cons_zero, List.set_cons_succ])
        refine wl_nil ?_
        refine hK38 _ _ ?_
        (try clear hK38 K38)
        refine wp_seq_k (fun K43 hK43 => ?_)
        refine wl_region ?_
        refine wl_give rfl (g_load_all 23 _ (w34.heap.size) (kc (Y)) 23 _ rfl (hM.get 2 rfl) Tryd.underlying23 rfl (szK _) ?_)
        (try simp only [Act.put, List.setIfInBounds_toArray, List.set_cons_zero, List.set_cons_succ])
        refine wl_give rfl (g_load_all 23 _ (w39.heap.size) (kc (Y)) 23 _ rfl (hM.get 0 rfl) Tryd.underlying23 rfl (szK _) ?_)
        (try simp only [Act.put, List.setIfInBounds_toArray, List.set_cons_zero, List.set_cons_succ])
        refine wl_give rfl (g_eqlK _ _ (Y) (Y) true rfl rfl (decide_eq_true rfl) ?_)
        (try simp only [Act.put, List.setIfInBounds_toArray, List.set_cons_zero, List.set_cons_succ])
        refine wl_give rfl (g_move _ (.bool true) rfl ?_)
        (try simp only [Act.put, List.setIfInBounds_toArray, List.set_cons_zero, List.set_cons_succ])
        refine wl_give rfl (g_move _ (.int .i64 (0)) rfl ?_)
        (try simp only [Act.put, List.setIfInBounds_toArray, List.set_cons_zero, List.set_cons_succ])
        refine wl_give rfl (g_move _ (.int .i64 (0)) rfl ?_)
        (try simp only [Act.put, List.setIfInBounds_toArray, List.set_cons_zero, List.set_cons_succ])
        refine wl_give rfl (g_ieq 27 _ _ .i64 (0) (0) true rfl rfl (by decide) ?_)
        (try simp only [Act.put, List.setIfInBounds_toArray, List.set_cons_zero, List.set_cons_succ])
        refine wl_give rfl (g_pickt _ _ _ (.bool true) rfl rfl ?_)
        (try simp only [Act.put, List.setIfInBounds_toArray, List.set_cons_zero, List.set_cons_succ])
        refine wl_give rfl (g_move _ (.bool true) rfl ?_)
        (try simp only [Act.put, List.setIfInBounds_toArray, List.set_cons_zero, List.set_cons_succ])
        refine wl_give rfl (g_move _ (.int .i64 (0)) rfl ?_)
        (try simp only [Act.put, List.setIfInBounds_toArray, List.set_cons_zero, List.set_cons_succ])
        refine wl_give rfl (g_ieq 27 _ _ .i64 (0) (0) true rfl rfl (by decide) ?_)
        (try simp only [Act.put, List.setIfInBounds_toArray, List.set_cons_zero, List.set_cons_succ])
        refine wl_give rfl (g_pickt _ _ _ (.bool true) rfl rfl ?_)
        (try simp only [Act.put, List.setIfInBounds_toArray, List.set_cons_zero, List.set_cons_succ])
        refine wl_give rfl (g_move _ (.bool true) rfl ?_)
        (try simp only [Act.put, List.setIfInBounds_toArray, List.set_cons_zero, List.set_cons_succ])
        refine wl_give rfl (g_move _ (.pointer (some ⟨p11, 0, none⟩)) rfl ?_)
        (try simp only [Act.put, List.setIfInBounds_toArray, List.set_cons_zero, List.set_cons_succ])
        refine wl_give rfl (g_move _ (.int .i64 (((k : Nat) : Int))) rfl ?_)
        (try simp only [Act.put, List.setIfInBounds_toArray, List.set_cons_zero, List.set_cons_succ])
        refine wl_give rfl (g_ia 3 _ _ .i64 (((k : Nat) : Int)) (1) (((k + 1 : Nat) : Int)) rfl rfl ek1.out ?_)
        (try simp only [Act.put, List.setIfInBounds_toArray, List.set_cons_zero, List.set_cons_succ])
        refine wl_give rfl (g_call 17 _ _ [.pointer (some ⟨p11, 0, none⟩), .int .i64 (((k + 1 : Nat) : Int))] (kf17 _ _) rfl ((pskip_no (show Ms w w42 [wk p11 (k) L (hi + 1) m35, blk (w39.heap.size) (kc (Y)) 23, wk p14 (k) L (hi + 1) m40, blk (w34.heap.size) (kc (Y)) 23, blk (w.heap.size) (kc (s)) 23] from (hM.up 3 rfl)) (((k + 1 : Nat) : Int)) (.inr (by omega))).mono ?_))
        rintro e w44 ⟨rfl, t_⟩
        refine ⟨_, rfl, ?_⟩
        replace hM := hM.call t_
        clear t_
        (try simp only [Act.put, List.setIfInBounds_toArray, List.set_cons_zero, List.set_cons_succ])
        refine wl_give rfl (g_ieq 27 _ _ .i64 (1) (1) true rfl rfl (by decide) ?_)
        (try simp only [Act.put, List.setIfInBounds_toArray, List.set_cons_zero, List.set_cons_succ])
        refine wl_give rfl (g_pickt _ _ _ (.bool true) rfl rfl ?_)
        (try simp only [Act.put, List.setIfInBounds_toArray, List.set_cons_zero, List.set_cons_succ])
        refine wl_give rfl (g_assign _ (.bool true) rfl ?_)
        (try simp only [Act.put, List.setIfInBounds_toArray, List.set_cons_zero, List.set_cons_succ])
        refine wl_nil ?_
        refine hK43 _ _ ?_
        (try clear hK43 K43)
        refine wp_ret ?_
        go_ret
        exact ⟨rfl, hM.below⟩
theorem walk (l0 : List UInt8) (h0 : l0.length = 32) (n : Int) (hn : (Lit.int .u8 n).wf = true) (a : Int) (ha : (Lit.int .u8 a).wf = true) (b : Int) (hb : (Lit.int .u8 b).wf = true) (w : World) (hT : Tabs w) : Calls Tryd.prog 6 #[.agg (bc l0).toArray, .int .u8 n, .int .u8 a, .int .u8 b] w fun e w' => e = .returned (.bool true) ∧ Below w.heap.size w w' := by
  obtain ⟨F, eF, hF⟩ := rem_nat n 40 (by decide) (in_u8 hn).1
  obtain ⟨x, ex, hx⟩ := rem_nat a (F + 1 + 1) (by omega) (in_u8 ha).1
  obtain ⟨y, ey, hy⟩ := rem_nat b (F + 1 + 1) (by omega) (in_u8 hb).1
  have ba := in_u8 ha
  have bb := in_u8 hb
  have g : ∀ x : Int, -9223372036854775808 ≤ x → x ≤ 9223372036854775807 → Shut (IntKind.i64.wrap x = x) := fun x a b => ⟨wrap_id x a b⟩
  obtain ⟨L, hL⟩ : ∃ L, tg ⟨l0, h0⟩ chainW = L := ⟨_, rfl⟩
  by_cases hxy : x = y
  · exact walk_a ⟨l0, h0⟩ n a b w hT F (F + 1) x y (min x y) (max x y) L _ ⟨eF⟩ (g _ (by omega) (by omega)) (g _ (by omega) (by omega)) (g _ (by omega) (by omega)) (g _ (by omega) (by omega)) (g _ (by omega) (by omega)) ⟨ex⟩ ⟨ey⟩ ⟨by omega⟩ ⟨by omega⟩ ⟨by omega⟩ (by omega) (by omega) (by omega) ⟨hL⟩ ⟨sk_ok _ 0 _ (by omega) (by omega)⟩ ⟨sk_ok _ _ _ (by omega) (by omega)⟩ ⟨nx_ok _ _ _ (by omega)⟩
  · exact walk_b ⟨l0, h0⟩ n a b w hT F (F + 1) x y (min x y) (max x y) L _ ⟨eF⟩ (g _ (by omega) (by omega)) (g _ (by omega) (by omega)) (g _ (by omega) (by omega)) (g _ (by omega) (by omega)) (g _ (by omega) (by omega)) ⟨ex⟩ ⟨ey⟩ ⟨by omega⟩ ⟨by omega⟩ ⟨by omega⟩ (by omega) (by omega) (by omega) (by omega) ⟨hL⟩ ⟨sk_ok _ 0 _ (by omega) (by omega)⟩ ⟨sk_ok _ _ _ (by omega) (by omega)⟩ ⟨nx_ok _ _ _ (by omega)⟩
end Go.Proofs.YtdfpnicpcndkjaaDoor.pebbleSkips
