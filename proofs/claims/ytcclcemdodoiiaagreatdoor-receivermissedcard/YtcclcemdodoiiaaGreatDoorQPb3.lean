/- What the program's (*Walker).reach, pass, Next and Skip do to a walker in memory, and what they answer. -/
import Derived.Test.YtcclcemdodoiiaaGreatDoorQPbWk
import Derived.WalkKit
import Derived.WalkSpells
import Derived.WalkLawsBesides
namespace Go.Proofs.YtcclcemdodoiiaaGreatDoor
set_option maxRecDepth 10000
open Go Go.RowKit
set_option linter.unusedVariables false
set_option linter.unusedSimpArgs false

set_option maxHeartbeats 4000000 in
theorem pass_any {w0 w : World} {R : List HP} {p n a m : Nat} {L : Ky} (t : Nat) (hM : Ms w0 w (wk p n L a m :: R)) (hat : a ≤ t) (htn : t ≤ n + 1) : Calls Tryz.prog 100 #[.pointer (some ⟨p, 0, none⟩), .int .i64 ((t : Nat) : Int)] w fun e w' => ∃ m', e = .returned (.tuple #[]) ∧ Ms w0 w' (wk p n L t m' :: R) := by
  obtain ⟨v, ms, hok, hlen, hM⟩ := wk_open hM
  obtain ⟨ao, cap, rfl, hcap0, _⟩ := row_slice (hM.up 1 rfl)
  have hfew := hok.few
  have hmo := mo_le n hok.top
  have htop := hok.top
  go_enter Tryz.func100, Tryz.ntmps100
  refine wp_seq_k (fun K1 hK1 => ?_)
  refine wl_region ?_
  refine wl_give rfl (g_move _ (.pointer (some ⟨p, 0, none⟩)) rfl ?_)
  (try simp only [Act.put, st_a, st_0, st_s])
  refine wl_give rfl (g_move _ (.int .i64 (((t : Nat) : Int))) rfl ?_)
  (try simp only [Act.put, st_a, st_0, st_s])
  refine wl_give rfl (g_nil _ ⟨p, 0, none⟩ rfl ?_)
  (try simp only [Act.put, st_a, st_0, st_s])
  refine wl_give rfl (g_fa 145 _ (p) (0) (0) 0 rfl (faW0 _ _) ?_)
  (try simp only [Act.put, st_a, st_0, st_s])
  refine wl_give rfl (g_st1 3 _ _ (p) 0 (.int .i64 (((t : Nat) : Int))) _ 145 rfl rfl (hM.get 0 rfl) (show 0 < 3 by decide) rfl rfl size3 ?_)
  intro w2 t_ b_
  replace hM : Ms w0 w2 (blk (p) (wc (((t : Nat) : Int)) ((n : Int) + 1) (.slice ao (m) (cap))) 145 :: row 142 33 (.slice ao m cap) (m) (fm n L ms) :: R) := hM.put 0 rfl t_ b_
  clear t_ b_
  (try simp only [Act.put, st_a, st_0, st_s])
  refine wl_nil ?_
  refine hK1 _ _ ?_
  (try clear hK1 K1)
  refine wp_seq_k (fun K3 hK3 => ?_)
  refine wl_region ?_
  refine wl_give rfl (g_move _ (.pointer (some ⟨p, 0, none⟩)) rfl ?_)
  (try simp only [Act.put, st_a, st_0, st_s])
  refine wl_give rfl (g_nil _ ⟨p, 0, none⟩ rfl ?_)
  (try simp only [Act.put, st_a, st_0, st_s])
  refine wl_give rfl (g_fa 145 _ (p) (0) (2) 2 rfl (faW2 _ _) ?_)
  (try simp only [Act.put, st_a, st_0, st_s])
  refine wl_give rfl (g_ld1 143 _ (p) 2 _ rfl (ldMs _ _ _ _ ((hM.get 0 rfl).cell 2 _ rfl)) ?_)
  (try simp only [Act.put, st_a, st_0, st_s])
  refine wl_give rfl (g_len _ 143 142 (ao) (m) (cap) (((m : Nat) : Int)) Tryz.underlying143 rfl rfl ?_)
  (try simp only [Act.put, st_a, st_0, st_s])
  refine wl_give rfl (g_assign _ (.int .i64 (((m : Nat) : Int))) rfl ?_)
  (try simp only [Act.put, st_a, st_0, st_s])
  refine wl_nil ?_
  refine hK3 _ _ ?_
  (try clear hK3 K3)
  refine wp_seq_k (fun K4 hK4 => ?_)
  refine wp_block ?_
  go_loopw [4] (fun v wr => ∃ c : Nat, c ≤ m ∧ Shut (∀ i, c ≤ i → ∀ q, ms[i]? = some q → q < t) ∧ v = .int .i64 ((c : Nat) : Int) ∧ Ms w0 wr (blk (p) (wc (((t : Nat) : Int)) ((n : Int) + 1) (.slice ao (m) (cap))) 145 :: row 142 33 (.slice ao m cap) (m) (fm n L ms) :: R)) (fun v _ => (intOf v).toNat)
  case atStart => exact ⟨m, Nat.le_refl _, ⟨fun i h1 q h2 => absurd (List.getElem?_eq_some_iff.1 h2).1 (by omega)⟩, rfl, hM⟩
  case round =>
    clear hM
    obtain ⟨c, hc, hlow, rfl, hM⟩ := hrel
    by_cases hc0 : 0 < c
    · obtain ⟨g, cap', cs, hv, hG, hl, hcap, hmx, hcs, htk⟩ := row_at (hM.up 1 rfl) (by omega)
      cases hv
      have hg := hG.get 0 rfl
      obtain ⟨q, hq⟩ : ∃ q, ms[c - 1]? = some q := ⟨_, List.getElem?_eq_getElem (by omega)⟩
      have hcell : wr.cell? ⟨g, 0 + (c - 1) * 33, none⟩ = some (.int .i64 ((q : Nat) : Int)) := by
        have h1 := fm_at n L ms (c - 1) q hq
        rw [← row_cells htk (c - 1) (by omega)] at h1
        rw [Nat.zero_add]
        refine hg.cell _ _ ?_
        have h2 := congrArg (fun l => l[0]?) h1
        simp only [List.getElem?_take, List.getElem?_drop, Nat.add_zero, mk_at] at h2
        simpa using h2
      have hs : Shut (IntKind.i64.wrap (((c : Nat) : Int) - 1) = ((c : Nat) : Int) - 1) := ⟨wrap_id _ (by omega) (by omega)⟩
      have hci : Shut (((c : Nat) : Int) - 1 = (((c - 1 : Nat) : Nat) : Int)) := ⟨by omega⟩
      by_cases hlt : ((q : Nat) : Int) < ((t : Nat) : Int)
      · skip
        refine wp_seq_k (fun K5 hK5 => ?_)
        refine wp_seq_k (fun K6 hK6 => ?_)
        refine wl_region ?_
        refine wl_give rfl (g_move _ (.int .i64 (((c : Nat) : Int))) rfl ?_)
        (try simp only [Act.put, st_a, st_0, st_s])
        refine wl_give rfl (g_igtr 3 _ _ .i64 (((c : Nat) : Int)) (0) true rfl rfl (decide_eq_true (by omega)) ?_)
        (try simp only [Act.put, st_a, st_0, st_s])
        refine wl_give rfl (g_move _ (.bool true) rfl ?_)
        (try simp only [Act.put, st_a, st_0, st_s])
        refine wl_give rfl (g_move _ (.pointer (some ⟨p, 0, none⟩)) rfl ?_)
        (try simp only [Act.put, st_a, st_0, st_s])
        refine wl_give rfl (g_nil _ ⟨p, 0, none⟩ rfl ?_)
        (try simp only [Act.put, st_a, st_0, st_s])
        refine wl_give rfl (g_fa 145 _ (p) (0) (2) 2 rfl (faW2 _ _) ?_)
        (try simp only [Act.put, st_a, st_0, st_s])
        refine wl_give rfl (g_ld1 143 _ (p) 2 _ rfl (ldMs _ _ _ _ ((hM.get 0 rfl).cell 2 _ rfl)) ?_)
        (try simp only [Act.put, st_a, st_0, st_s])
        refine wl_give rfl (g_move _ (.int .i64 (((c : Nat) : Int))) rfl ?_)
        (try simp only [Act.put, st_a, st_0, st_s])
        refine wl_give rfl (g_isub 3 _ _ .i64 (((c : Nat) : Int)) (1) (((c : Nat) : Int) - 1) rfl rfl (hs.out) ?_)
        (try simp only [Act.put, st_a, st_0, st_s])
        refine wl_give rfl (g_ix _ _ 143 142 33 Tryz.underlying143 szof142 g 0 m cap (c - 1) (0 + (c - 1) * 33) _ rfl rfl hci.out (by omega) rfl ?_)
        (try simp only [Act.put, st_a, st_0, st_s])
        refine wl_give rfl (g_fa 142 _ g (0 + (c - 1) * 33) (0 + (c - 1) * 33) 0 rfl (faM0 _ _ _) ?_)
        (try simp only [Act.put, st_a, st_0, st_s])
        refine wl_give rfl (g_ld1 3 _ g (0 + (c - 1) * 33) _ rfl (ld3 _ _ _ _ hcell) ?_)
        (try simp only [Act.put, st_a, st_0, st_s])
        refine wl_give rfl (g_move _ (.int .i64 (((t : Nat) : Int))) rfl ?_)
        (try simp only [Act.put, st_a, st_0, st_s])
        refine wl_give rfl (g_ilss 3 _ _ .i64 (((q : Nat) : Int)) (((t : Nat) : Int)) true rfl rfl (decide_eq_true hlt) ?_)
        (try simp only [Act.put, st_a, st_0, st_s])
        refine wl_give rfl (g_pickt _ _ _ (.bool true) rfl rfl ?_)
        (try simp only [Act.put, st_a, st_0, st_s])
        refine wl_nil ?_
        refine hK6 _ _ ?_
        (try clear hK6 K6)
        refine wp_cond_true rfl ?_
        refine wp_skip ?_
        refine hK5 _ _ ?_
        (try clear hK5 K5)
        refine wp_block ?_
        refine wl_region ?_
        refine wl_give rfl (g_move _ (.int .i64 (((c : Nat) : Int))) rfl ?_)
        (try simp only [Act.put, st_a, st_0, st_s])
        refine wl_give rfl (g_isub 3 _ _ .i64 (((c : Nat) : Int)) (1) (((c : Nat) : Int) - 1) rfl rfl (hs.out) ?_)
        (try simp only [Act.put, st_a, st_0, st_s])
        refine wl_give rfl (g_assign _ (.int .i64 (((c : Nat) : Int) - 1)) rfl ?_)
        (try simp only [Act.put, st_a, st_0, st_s])
        refine wl_nil ?_
        (try simp only [Exit.then, Exit.inBlock, ↓reduceIte, Nat.reduceEqDiff])
        go_roundw
        case rel => exact ⟨c - 1, by omega, ⟨fun i h1 q2 h2 => by
            by_cases e : i = c - 1
            · subst e; rw [hq] at h2; cases h2; omega
            · exact hlow.out i (by omega) q2 h2⟩, by rw [hci.out], hM⟩
        case measure => simp [intOf]; omega
      · skip
        refine wp_seq_k (fun K7 hK7 => ?_)
        refine wp_seq_k (fun K8 hK8 => ?_)
        refine wl_region ?_
        refine wl_give rfl (g_move _ (.int .i64 (((c : Nat) : Int))) rfl ?_)
        (try simp only [Act.put, st_a, st_0, st_s])
        refine wl_give rfl (g_igtr 3 _ _ .i64 (((c : Nat) : Int)) (0) true rfl rfl (decide_eq_true (by omega)) ?_)
        (try simp only [Act.put, st_a, st_0, st_s])
        refine wl_give rfl (g_move _ (.bool true) rfl ?_)
        (try simp only [Act.put, st_a, st_0, st_s])
        refine wl_give rfl (g_move _ (.pointer (some ⟨p, 0, none⟩)) rfl ?_)
        (try simp only [Act.put, st_a, st_0, st_s])
        refine wl_give rfl (g_nil _ ⟨p, 0, none⟩ rfl ?_)
        (try simp only [Act.put, st_a, st_0, st_s])
        refine wl_give rfl (g_fa 145 _ (p) (0) (2) 2 rfl (faW2 _ _) ?_)
        (try simp only [Act.put, st_a, st_0, st_s])
        refine wl_give rfl (g_ld1 143 _ (p) 2 _ rfl (ldMs _ _ _ _ ((hM.get 0 rfl).cell 2 _ rfl)) ?_)
        (try simp only [Act.put, st_a, st_0, st_s])
        refine wl_give rfl (g_move _ (.int .i64 (((c : Nat) : Int))) rfl ?_)
        (try simp only [Act.put, st_a, st_0, st_s])
        refine wl_give rfl (g_isub 3 _ _ .i64 (((c : Nat) : Int)) (1) (((c : Nat) : Int) - 1) rfl rfl (hs.out) ?_)
        (try simp only [Act.put, st_a, st_0, st_s])
        refine wl_give rfl (g_ix _ _ 143 142 33 Tryz.underlying143 szof142 g 0 m cap (c - 1) (0 + (c - 1) * 33) _ rfl rfl hci.out (by omega) rfl ?_)
        (try simp only [Act.put, st_a, st_0, st_s])
        refine wl_give rfl (g_fa 142 _ g (0 + (c - 1) * 33) (0 + (c - 1) * 33) 0 rfl (faM0 _ _ _) ?_)
        (try simp only [Act.put, st_a, st_0, st_s])
        refine wl_give rfl (g_ld1 3 _ g (0 + (c - 1) * 33) _ rfl (ld3 _ _ _ _ hcell) ?_)
        (try simp only [Act.put, st_a, st_0, st_s])
        refine wl_give rfl (g_move _ (.int .i64 (((t : Nat) : Int))) rfl ?_)
        (try simp only [Act.put, st_a, st_0, st_s])
        refine wl_give rfl (g_ilss 3 _ _ .i64 (((q : Nat) : Int)) (((t : Nat) : Int)) false rfl rfl (decide_eq_false hlt) ?_)
        (try simp only [Act.put, st_a, st_0, st_s])
        refine wl_give rfl (g_pickt _ _ _ (.bool false) rfl rfl ?_)
        (try simp only [Act.put, st_a, st_0, st_s])
        refine wl_nil ?_
        refine hK8 _ _ ?_
        (try clear hK8 K8)
        refine wp_cond_false rfl ?_
        refine wp_exit ?_
        refine hK4 _ _ ?_
        (try clear hK4 K4)
        refine wl_region ?_
        refine wl_give rfl (g_move _ (.pointer (some ⟨p, 0, none⟩)) rfl ?_)
        (try simp only [Act.put, st_a, st_0, st_s])
        refine wl_give rfl (g_move _ (.pointer (some ⟨p, 0, none⟩)) rfl ?_)
        (try simp only [Act.put, st_a, st_0, st_s])
        refine wl_give rfl (g_nil _ ⟨p, 0, none⟩ rfl ?_)
        (try simp only [Act.put, st_a, st_0, st_s])
        refine wl_give rfl (g_fa 145 _ (p) (0) (2) 2 rfl (faW2 _ _) ?_)
        (try simp only [Act.put, st_a, st_0, st_s])
        refine wl_give rfl (g_ld1 143 _ (p) 2 _ rfl (ldMs _ _ _ _ ((hM.get 0 rfl).cell 2 _ rfl)) ?_)
        (try simp only [Act.put, st_a, st_0, st_s])
        refine wl_give rfl (g_move _ (.int .i64 (((c : Nat) : Int))) rfl ?_)
        (try simp only [Act.put, st_a, st_0, st_s])
        refine wl_give rfl (g_move _ (.int .i64 (((c : Nat) : Int))) rfl ?_)
        (try simp only [Act.put, st_a, st_0, st_s])
        refine wl_give rfl (g_cut _ _ _ (some ⟨g, 0, none⟩) m cap c _ rfl rfl rfl rfl (by omega) ?_)
        (try simp only [Act.put, st_a, st_0, st_s])
        refine wl_give rfl (g_nil _ ⟨p, 0, none⟩ rfl ?_)
        (try simp only [Act.put, st_a, st_0, st_s])
        refine wl_give rfl (g_fa 145 _ (p) (0) (2) 2 rfl (faW2 _ _) ?_)
        (try simp only [Act.put, st_a, st_0, st_s])
        refine wl_give rfl (g_st1 143 _ _ (p) 2 (.slice (some ⟨g, 0, none⟩) (c) (c)) _ 145 rfl rfl (hM.get 0 rfl) (show 2 < 3 by decide) rfl rfl sizeMs ?_)
        intro w9 t_ b_
        replace hM : Ms w0 w9 (blk (p) (wc ((t : Int)) ((n : Int) + 1) (.slice (some ⟨g, 0, none⟩) (c) (c))) 145 :: row 142 33 (.slice (some ⟨g, 0, none⟩) m cap) (m) (fm n L ms) :: R) := hM.put 0 rfl t_ b_
        clear t_ b_
        (try simp only [Act.put, st_a, st_0, st_s])
        refine wl_nil ?_
        (try simp only [Exit.inBlock, Exit.then])
        refine (show _ ∧ ∃ v, _ ∧ _ from ⟨rfl, _, results_none rfl _ _ _, c, rfl, ?_⟩)
        have h8 := row_cut (hM.up 1 rfl) c hc
        
        rw [fm_take] at h8
        refine wk_mk (h8.up 1 rfl) (hok.pass hat htn (by omega) hlow.out (fun i q2 h1 h2 => ?_)) (by rw [List.length_take]; omega)
        obtain rfl : i = c - 1 := by omega
        rw [hq] at h2; cases h2; omega
    · skip
      refine wp_seq_k (fun K10 hK10 => ?_)
      refine wp_seq_k (fun K11 hK11 => ?_)
      refine wl_region ?_
      refine wl_give rfl (g_move _ (.int .i64 (((c : Nat) : Int))) rfl ?_)
      (try simp only [Act.put, st_a, st_0, st_s])
      refine wl_give rfl (g_igtr 3 _ _ .i64 (((c : Nat) : Int)) (0) false rfl rfl (decide_eq_false (by omega)) ?_)
      (try simp only [Act.put, st_a, st_0, st_s])
      refine wl_give rfl (g_move _ (.bool false) rfl ?_)
      (try simp only [Act.put, st_a, st_0, st_s])
      refine wl_skip rfl ?_
      (try simp only [Act.put, st_a, st_0, st_s])
      refine wl_skip rfl ?_
      (try simp only [Act.put, st_a, st_0, st_s])
      refine wl_skip rfl ?_
      (try simp only [Act.put, st_a, st_0, st_s])
      refine wl_skip rfl ?_
      (try simp only [Act.put, st_a, st_0, st_s])
      refine wl_skip rfl ?_
      (try simp only [Act.put, st_a, st_0, st_s])
      refine wl_skip rfl ?_
      (try simp only [Act.put, st_a, st_0, st_s])
      refine wl_skip rfl ?_
      (try simp only [Act.put, st_a, st_0, st_s])
      refine wl_skip rfl ?_
      (try simp only [Act.put, st_a, st_0, st_s])
      refine wl_skip rfl ?_
      (try simp only [Act.put, st_a, st_0, st_s])
      refine wl_skip rfl ?_
      (try simp only [Act.put, st_a, st_0, st_s])
      refine wl_skip rfl ?_
      (try simp only [Act.put, st_a, st_0, st_s])
      refine wl_give rfl (g_pickf _ _ _ (.bool false) rfl rfl ?_)
      (try simp only [Act.put, st_a, st_0, st_s])
      refine wl_nil ?_
      refine hK11 _ _ ?_
      (try clear hK11 K11)
      refine wp_cond_false rfl ?_
      refine wp_exit ?_
      refine hK4 _ _ ?_
      (try clear hK4 K4)
      refine wl_region ?_
      refine wl_give rfl (g_move _ (.pointer (some ⟨p, 0, none⟩)) rfl ?_)
      (try simp only [Act.put, st_a, st_0, st_s])
      refine wl_give rfl (g_move _ (.pointer (some ⟨p, 0, none⟩)) rfl ?_)
      (try simp only [Act.put, st_a, st_0, st_s])
      refine wl_give rfl (g_nil _ ⟨p, 0, none⟩ rfl ?_)
      (try simp only [Act.put, st_a, st_0, st_s])
      refine wl_give rfl (g_fa 145 _ (p) (0) (2) 2 rfl (faW2 _ _) ?_)
      (try simp only [Act.put, st_a, st_0, st_s])
      refine wl_give rfl (g_ld1 143 _ (p) 2 _ rfl (ldMs _ _ _ _ ((hM.get 0 rfl).cell 2 _ rfl)) ?_)
      (try simp only [Act.put, st_a, st_0, st_s])
      refine wl_give rfl (g_move _ (.int .i64 (((c : Nat) : Int))) rfl ?_)
      (try simp only [Act.put, st_a, st_0, st_s])
      refine wl_give rfl (g_move _ (.int .i64 (((c : Nat) : Int))) rfl ?_)
      (try simp only [Act.put, st_a, st_0, st_s])
      refine wl_give rfl (g_cut _ _ _ ao m cap c _ rfl rfl rfl rfl (by omega) ?_)
      (try simp only [Act.put, st_a, st_0, st_s])
      refine wl_give rfl (g_nil _ ⟨p, 0, none⟩ rfl ?_)
      (try simp only [Act.put, st_a, st_0, st_s])
      refine wl_give rfl (g_fa 145 _ (p) (0) (2) 2 rfl (faW2 _ _) ?_)
      (try simp only [Act.put, st_a, st_0, st_s])
      refine wl_give rfl (g_st1 143 _ _ (p) 2 (.slice ao (c) (c)) _ 145 rfl rfl (hM.get 0 rfl) (show 2 < 3 by decide) rfl rfl sizeMs ?_)
      intro w12 t_ b_
      replace hM : Ms w0 w12 (blk (p) (wc (((t : Nat) : Int)) ((n : Int) + 1) (.slice ao (c) (c))) 145 :: row 142 33 (.slice ao m cap) (m) (fm n L ms) :: R) := hM.put 0 rfl t_ b_
      clear t_ b_
      (try simp only [Act.put, st_a, st_0, st_s])
      refine wl_nil ?_
      (try simp only [Exit.inBlock, Exit.then])
      refine (show _ ∧ ∃ v, _ ∧ _ from ⟨rfl, _, results_none rfl _ _ _, c, rfl, ?_⟩)
      have h8 := row_cut (hM.up 1 rfl) c hc
      
      rw [fm_take] at h8
      refine wk_mk (h8.up 1 rfl) (hok.pass hat htn (by omega) hlow.out (fun i q2 h1 h2 => ?_)) (by rw [List.length_take]; omega)
      omega
theorem mk_some : (Tryz.prog.info? 142).map (fun i => (i.size, i.bytes, i.zero.map (fun z => z.cells.size))) = some (33, 40, some 33) := by kernel_rfl
theorem mk_info : ∃ i z, Tryz.prog.info? 142 = some i ∧ i.zero = some z ∧ i.size = 33 ∧ i.bytes = 40 ∧ z.cells.size = 33 := by
  have h := mk_some
  cases hi : Tryz.prog.info? 142 with
  | none => rw [hi] at h; cases h
  | some i =>
    rw [hi] at h
    simp only [Option.map_some, Option.some.injEq, Prod.mk.injEq] at h
    obtain ⟨h1, h2, h3⟩ := h
    cases hz : i.zero with
    | none => rw [hz] at h3; cases h3
    | some z =>
      rw [hz] at h3
      simp only [Option.map_some, Option.some.injEq] at h3
      exact ⟨i, z, rfl, hz, h1, h2, h3⟩
theorem sizeMk33 : (Tryz.prog.info? 142).map (·.size) = some 33 := by kernel_rfl
set_option maxHeartbeats 4000000 in
theorem reach_any {w0 w : World} {R : List HP} {p n a m : Nat} {L : Ky} (hM : Ms w0 w (wk p n L a m :: R)) (hT : Tabs w0) (ha : a ≤ n) : Calls Tryz.prog 99 #[.pointer (some ⟨p, 0, none⟩)] w fun e w' => ∃ m', e = .returned (.agg (mk (a : Int) (wl (n - a) L)).toArray) ∧ Ms w0 w' (wk p n L a m' :: R) := by
  obtain ⟨v, ms, hok, hlen, hM⟩ := wk_open hM
  have hfew := hok.few
  have hmo := mo_le n hok.top
  have htop := hok.top
  obtain ⟨r, hr⟩ := hok.head ha
  have hm0 : 0 < m := by rw [← hlen, hr]; simp
  obtain ⟨g, cap, cs, rfl, hG, hl, hcap, hmx, hcs, htk⟩ := row_at (hM.up 1 rfl) hm0
  replace hM : Ms w0 w (blk p (wc (a : Int) ((n : Int) + 1) (.slice (some ⟨g, 0, none⟩) m cap)) 145 :: blk g cs 142 :: R) := hG.up 1 rfl
  obtain ⟨q, hlast⟩ : ∃ q, ms.getLast? = some q := by rw [hr]; exact ⟨_, List.getLast?_eq_some_getLast (by simp)⟩
  have hq : ms[m - 1]? = some q := by rw [← hlen, ← List.getLast?_eq_getElem?]; exact hlast
  have hs : Shut (IntKind.i64.wrap (((m : Nat) : Int) - 1) = ((m : Nat) : Int) - 1) := ⟨wrap_id _ (by omega) (by omega)⟩
  have hci : Shut (((m : Nat) : Int) - 1 = (((m - 1 : Nat) : Nat) : Int)) := ⟨by omega⟩
  have hload : Shut ((cs.drop (0 + (m - 1) * 33)).take 33 = mk (q : Int) (wl (n - q) L)) := ⟨by rw [Nat.zero_add, row_cells htk (m - 1) (by omega)]; exact fm_at n L ms (m - 1) q hq⟩
  have hfit : Shut (0 + (m - 1) * 33 + 33 ≤ cs.length) := ⟨by have : m * 33 ≤ cap * 33 := Nat.mul_le_mul_right _ hcap; omega⟩
  go_enter Tryz.func99, Tryz.ntmps99
  refine wp_seq_k (fun K1 hK1 => ?_)
  refine wl_region ?_
  refine wl_give rfl (g_alloc 142 (mk (0) (zk)) zeroMk ?_)
  intro w2 t_ b_
  replace hM : Ms w0 w2 (blk (w.heap.size) (mk (0) (zk)) 142 :: blk (p) (wc (((a : Nat) : Int)) ((n : Int) + 1) (.slice (some ⟨g, 0, none⟩) (m) (cap))) 145 :: blk g cs 142 :: R) := hM.new t_ b_
  clear t_ b_
  (try simp only [Act.put, st_a, st_0, st_s])
  refine wl_nil ?_
  refine hK1 _ _ ?_
  (try clear hK1 K1)
  refine wp_seq_k (fun K3 hK3 => ?_)
  refine wp_region_steps (by kernel_rfl) (by kernel_rfl) [12, 13] [0, 0, 0, 0, 0, 0, 0, 0, 0, 0, 0, 0, 0, 1] [1, 1, 1, 1, 1, 1, 1, 1, 1, 1, 1, 1, 1, 2] (by kernel_rfl) (Pm := Nat) (fun π => [.pointer (some ⟨p, 0, none⟩), .pointer (some ⟨p, 0, none⟩), .pointer (some ⟨p, 2, none⟩), .slice (some ⟨g, 0, none⟩) (m) (cap), .pointer (some ⟨p, 0, none⟩), .pointer (some ⟨p, 0, none⟩), .pointer (some ⟨p, 2, none⟩), .slice (some ⟨g, 0, none⟩) (m) (cap), .int .i64 (((m : Nat) : Int)), .int .i64 (((m : Nat) : Int) - 1), .pointer (some ⟨g, 0 + (m - 1) * 33, none⟩), .agg (mk (((q : Nat) : Int)) (wl (n - q) L)).toArray, .pointer (some ⟨π, 0, none⟩), undef]) (fun _ => by rfl) (fun j_ π wx => match j_ with | 0 => Ms w0 wx (blk (w.heap.size) (mk (0) (zk)) 142 :: blk (p) (wc (((a : Nat) : Int)) ((n : Int) + 1) (.slice (some ⟨g, 0, none⟩) (m) (cap))) 145 :: blk g cs 142 :: R) | 1 => Ms w0 wx (blk (π) (mk (0) (zk)) 142 :: blk (w.heap.size) (mk (0) (zk)) 142 :: blk (p) (wc (((a : Nat) : Int)) ((n : Int) + 1) (.slice (some ⟨g, 0, none⟩) (m) (cap))) 145 :: blk g cs 142 :: R) | _ => Ms w0 wx (blk (π) (mk (((q : Nat) : Int)) (wl (n - q) L)) 142 :: blk (w.heap.size) (mk (0) (zk)) 142 :: blk (p) (wc (((a : Nat) : Int)) ((n : Int) + 1) (.slice (some ⟨g, 0, none⟩) (m) (cap))) 145 :: blk g cs 142 :: R)) (0) hM.drew ?_ ?_ ?_
  · intro j_ k_ o_ hj_ ho_ π wx hM
    rcases j_ with _ | _ | j_
    · obtain rfl := Option.some.inj hj_
      obtain rfl := Option.some.inj ho_
      simp only [fullL, Act.put, st_a, st_s, st_0]
      replace hM : Ms w0 wx (blk (w.heap.size) (mk (0) (zk)) 142 :: blk (p) (wc (((a : Nat) : Int)) ((n : Int) + 1) (.slice (some ⟨g, 0, none⟩) (m) (cap))) 145 :: blk g cs 142 :: R) := hM
      exact gw rfl (g_alloc 142 (mk (0) (zk)) zeroMk (fun w' t_ b_ => ⟨(wx.heap.size), rfl, fun i h1 h2 => by rcases i with _ | _ | _ | _ | _ | _ | _ | _ | _ | _ | _ | _ | _ | _ | i <;> first | rfl | trivial | exact absurd rfl h2 | exact absurd h1 (by decide), hM.new t_ b_⟩))
    · obtain rfl := Option.some.inj hj_
      obtain rfl := Option.some.inj ho_
      simp only [fullL, Act.put, st_a, st_s, st_0]
      replace hM : Ms w0 wx (blk (π) (mk (0) (zk)) 142 :: blk (w.heap.size) (mk (0) (zk)) 142 :: blk (p) (wc (((a : Nat) : Int)) ((n : Int) + 1) (.slice (some ⟨g, 0, none⟩) (m) (cap))) 145 :: blk g cs 142 :: R) := hM
      exact gw rfl (g_store_all 142 _ _ (π) (mk (((q : Nat) : Int)) (wl (n - q) L)) _ 142 rfl rfl (hM.get 0 rfl) (szMk _ _) (mm_len _ _ _ _) (one_mk _ _) (fun w' t_ b_ => ⟨(π), rfl, fun i h1 h2 => by rcases i with _ | _ | _ | _ | _ | _ | _ | _ | _ | _ | _ | _ | _ | _ | i <;> first | rfl | trivial | exact absurd rfl h2 | exact absurd h1 (by decide), hM.put 0 rfl t_ b_⟩))
    · simp at hj_
  · intro i_ o_ ho_ hi_ j_ hd_ hh_ hj_ π wx hM
    simp only [fullL, Act.put, st_a, st_s, st_0]
    rcases i_ with _ | _ | _ | _ | _ | _ | _ | _ | _ | _ | _ | _ | _ | _ | i_
    · obtain rfl := Option.some.inj ho_
      exact gw rfl (g_move _ (.pointer (some ⟨p, 0, none⟩)) rfl ⟨rfl, hM⟩)
    · obtain rfl := Option.some.inj ho_
      exact gw rfl (g_nil _ ⟨p, 0, none⟩ rfl ⟨rfl, hM⟩)
    · obtain rfl := Option.some.inj ho_
      exact gw rfl (g_fa 145 _ (p) (0) (2) 2 rfl (faW2 _ _) ⟨rfl, hM⟩)
    · obtain rfl := Option.some.inj ho_
      rcases j_ with _ | _ | _ | j_
      · replace hM : Ms w0 wx (blk (w.heap.size) (mk (0) (zk)) 142 :: blk (p) (wc (((a : Nat) : Int)) ((n : Int) + 1) (.slice (some ⟨g, 0, none⟩) (m) (cap))) 145 :: blk g cs 142 :: R) := hM
        exact gw rfl (g_ld1 143 _ (p) 2 _ rfl (ldMs _ _ _ _ ((hM.get 1 rfl).cell 2 _ rfl)) ⟨rfl, hM⟩)
      · replace hM : Ms w0 wx (blk (π) (mk (0) (zk)) 142 :: blk (w.heap.size) (mk (0) (zk)) 142 :: blk (p) (wc (((a : Nat) : Int)) ((n : Int) + 1) (.slice (some ⟨g, 0, none⟩) (m) (cap))) 145 :: blk g cs 142 :: R) := hM
        exact gw rfl (g_ld1 143 _ (p) 2 _ rfl (ldMs _ _ _ _ ((hM.get 2 rfl).cell 2 _ rfl)) ⟨rfl, hM⟩)
      · exact absurd hh_ (by decide)
      · exact absurd hj_ (by simp)
    · obtain rfl := Option.some.inj ho_
      exact gw rfl (g_move _ (.pointer (some ⟨p, 0, none⟩)) rfl ⟨rfl, hM⟩)
    · obtain rfl := Option.some.inj ho_
      exact gw rfl (g_nil _ ⟨p, 0, none⟩ rfl ⟨rfl, hM⟩)
    · obtain rfl := Option.some.inj ho_
      exact gw rfl (g_fa 145 _ (p) (0) (2) 2 rfl (faW2 _ _) ⟨rfl, hM⟩)
    · obtain rfl := Option.some.inj ho_
      rcases j_ with _ | _ | _ | j_
      · replace hM : Ms w0 wx (blk (w.heap.size) (mk (0) (zk)) 142 :: blk (p) (wc (((a : Nat) : Int)) ((n : Int) + 1) (.slice (some ⟨g, 0, none⟩) (m) (cap))) 145 :: blk g cs 142 :: R) := hM
        exact gw rfl (g_ld1 143 _ (p) 2 _ rfl (ldMs _ _ _ _ ((hM.get 1 rfl).cell 2 _ rfl)) ⟨rfl, hM⟩)
      · replace hM : Ms w0 wx (blk (π) (mk (0) (zk)) 142 :: blk (w.heap.size) (mk (0) (zk)) 142 :: blk (p) (wc (((a : Nat) : Int)) ((n : Int) + 1) (.slice (some ⟨g, 0, none⟩) (m) (cap))) 145 :: blk g cs 142 :: R) := hM
        exact gw rfl (g_ld1 143 _ (p) 2 _ rfl (ldMs _ _ _ _ ((hM.get 2 rfl).cell 2 _ rfl)) ⟨rfl, hM⟩)
      · exact absurd hh_ (by decide)
      · exact absurd hj_ (by simp)
    · obtain rfl := Option.some.inj ho_
      exact gw rfl (g_len _ 143 142 (some ⟨g, 0, none⟩) m cap (((m : Nat) : Int)) Tryz.underlying143 rfl rfl ⟨rfl, hM⟩)
    · obtain rfl := Option.some.inj ho_
      exact gw rfl (g_isub 3 _ _ .i64 (((m : Nat) : Int)) (1) (((m : Nat) : Int) - 1) rfl rfl hs.out ⟨rfl, hM⟩)
    · obtain rfl := Option.some.inj ho_
      exact gw rfl (g_ix _ _ 143 142 33 Tryz.underlying143 szof142 g 0 m cap (m - 1) (0 + (m - 1) * 33) _ rfl rfl hci.out (by omega) rfl ⟨rfl, hM⟩)
    · obtain rfl := Option.some.inj ho_
      rcases j_ with _ | _ | _ | j_
      · replace hM : Ms w0 wx (blk (w.heap.size) (mk (0) (zk)) 142 :: blk (p) (wc (((a : Nat) : Int)) ((n : Int) + 1) (.slice (some ⟨g, 0, none⟩) (m) (cap))) 145 :: blk g cs 142 :: R) := hM
        exact gw rfl (g_load 142 _ (g) (0 + (m - 1) * 33) 33 _ 142 _ rfl (hM.get 2 rfl) Tryz.underlying142 rfl sizeMk33 hfit.out _ hload.out ⟨rfl, hM⟩)
      · replace hM : Ms w0 wx (blk (π) (mk (0) (zk)) 142 :: blk (w.heap.size) (mk (0) (zk)) 142 :: blk (p) (wc (((a : Nat) : Int)) ((n : Int) + 1) (.slice (some ⟨g, 0, none⟩) (m) (cap))) 145 :: blk g cs 142 :: R) := hM
        exact gw rfl (g_load 142 _ (g) (0 + (m - 1) * 33) 33 _ 142 _ rfl (hM.get 3 rfl) Tryz.underlying142 rfl sizeMk33 hfit.out _ hload.out ⟨rfl, hM⟩)
      · exact absurd hh_ (by decide)
      · exact absurd hj_ (by simp)
    · exact absurd (by decide) hi_
    · exact absurd (by decide) hi_
    · simp at ho_
  · simp only [fullL, Act.put, st_a, st_s, st_0]
    rintro p5 w4 hM
    replace hM : Ms w0 w4 (blk (p5) (mk (((q : Nat) : Int)) (wl (n - q) L)) 142 :: blk (w.heap.size) (mk (0) (zk)) 142 :: blk (p) (wc (((a : Nat) : Int)) ((n : Int) + 1) (.slice (some ⟨g, 0, none⟩) (m) (cap))) 145 :: blk g cs 142 :: R) := hM
    refine hK3 _ _ ?_
    (try clear hK3 K3)
    refine wp_seq_k (fun K6 hK6 => ?_)
    refine wp_block ?_
    have h8 := row_mk (e := 142) (size := 33) (n := m) (xs := fm n L ms) ((((hM.up 2 rfl).up 2 rfl).up 2 rfl).up 3 rfl) hl hcap hmx hcs htk
    go_loopw [4] (fun _ wr => ∃ (v : Value) (m q : Nat) (ms : List Nat), Ok n a ms ∧ ms.length = m ∧ ms.getLast? = some q ∧ Ms w0 wr (blk (p5) (mk (((q : Nat) : Int)) (wl (n - q) L)) 142 :: blk (w.heap.size) (mk (0) (zk)) 142 :: blk (p) (wc (((a : Nat) : Int)) ((n : Int) + 1) (v)) 145 :: row 142 33 v m (fm n L ms) :: R)) (fun _ wr => (match wr.cell? ⟨p5, 0, none⟩ with | some v => intOf v - a | none => 0).toNat)
    case atStart => exact ⟨_, m, q, ms, hok, hlen, hlast, (((h8.up 3 rfl).up 3 rfl).up 3 rfl)⟩
    case round =>
      clear hM hok hlen hlast hq hfew hr hm0
      obtain ⟨v, m, q, ms, hok, hlen, hlast, hM⟩ := hrel
      have hfew := hok.few
      have hmem := hok.mem q (List.mem_of_getLast? hlast)
      obtain ⟨ao, cap, rfl, hcap, _⟩ := row_slice (hM.up 3 rfl)
      have hcell0 := (hM.get 0 rfl).cell 0 _ (mk_at _ _)
      by_cases hlt : ((a : Nat) : Int) < ((q : Nat) : Int)
      · obtain ⟨st, hst⟩ : ∃ st, (q - a + 1) / 2 = st := ⟨_, rfl⟩
        obtain ⟨q2, hq2⟩ : ∃ q2, q - st = q2 := ⟨_, rfl⟩
        obtain ⟨K2, hK2⟩ : ∃ K2, wl (n - q2) L = K2 := ⟨_, rfl⟩
        obtain ⟨d, e1⟩ : ∃ d, Shut (IntKind.i64.wrap (((q : Nat) : Int) - ((a : Nat) : Int)) = d) := ⟨_, ⟨rfl⟩⟩
        obtain ⟨d1, e2⟩ : ∃ d1, Shut (IntKind.i64.wrap (d + 1) = d1) := ⟨_, ⟨rfl⟩⟩
        have hd : d = ((q - a : Nat) : Int) := by rw [← e1.out, wrap_id _ (by omega) (by omega)]; omega
        have hd1 : d1 = ((q - a + 1 : Nat) : Int) := by rw [← e2.out, wrap_id _ (by omega) (by omega), hd]; omega
        have e3 : Shut (IntKind.i64.wrap (d1.tdiv 2) = ((st : Nat) : Int)) := ⟨by rw [hd1, Int.tdiv_eq_ediv_of_nonneg (by omega), wrap_id _ (by omega) (by omega)]; omega⟩
        have e4 : Shut (IntKind.i64.wrap (((q : Nat) : Int) - ((st : Nat) : Int)) = ((q2 : Nat) : Int)) := ⟨by rw [wrap_id _ (by omega) (by omega)]; omega⟩
        have hlt2 : Shut (q2 < q ∧ a ≤ q2) := ⟨by omega⟩
        have hok2 : Shut (Ok n a (ms ++ [q2])) := ⟨by rw [← hq2, ← hst]; exact hok.snoc hlast (by omega)⟩
        have hK2 : Shut (wl (min ((st : Nat) : Int) 4096).toNat (wl (n - q) L) = K2) := ⟨by rw [wl_add, ← hK2]; congr 1; omega⟩
        have hK3 : Shut (wl (n - q2) L = K2) := ⟨by rw [← hK2.out, wl_add]; congr 1; omega⟩
        obtain ⟨mkI, mkZ, mkI_info, mkI_zero, mkI_size, mkI_bytes, mkZ_size⟩ := mk_info
        clear hd hd1 hst hq2
        refine wp_seq_k (fun K7 hK7 => ?_)
        refine wp_seq_k (fun K8 hK8 => ?_)
        refine wp_region_fixed (by kernel_rfl) (by kernel_rfl) [.pointer (some ⟨p5, 0, none⟩), .int .i64 (((q : Nat) : Int)), .pointer (some ⟨p, 0, none⟩), .pointer (some ⟨p, 0, none⟩), .pointer (some ⟨p, 0, none⟩), .int .i64 (((a : Nat) : Int)), .bool true] (by rfl) (fun wx => Ms w0 wx (blk (p5) (mk (((q : Nat) : Int)) (wl (n - q) L)) 142 :: blk (w.heap.size) (mk (0) (zk)) 142 :: blk (p) (wc (((a : Nat) : Int)) ((n : Int) + 1) (.slice ao (m) (cap))) 145 :: row 142 33 (.slice ao m cap) m (fm n L ms) :: R)) hM.drew ?_ ?_
        · simp only [fullL, Act.put, st_a, st_s, st_0]
          refine ⟨?_, ?_, ?_, ?_, ?_, ?_, ?_, trivial⟩
          · exact fun wx hM => gw rfl (g_fa 142 _ (p5) (0) (0) 0 rfl (faM0 _ _ _) ⟨rfl, hM⟩)
          · exact fun wx hM => gw rfl (g_ld1 3 _ (p5) 0 _ rfl (ld3 _ _ _ _ ((hM.get 0 rfl).cell 0 _ (mk_at _ _))) ⟨rfl, hM⟩)
          · exact fun wx hM => gw rfl (g_move _ (.pointer (some ⟨p, 0, none⟩)) rfl ⟨rfl, hM⟩)
          · exact fun wx hM => gw rfl (g_nil _ ⟨p, 0, none⟩ rfl ⟨rfl, hM⟩)
          · exact fun wx hM => gw rfl (g_fa 145 _ (p) (0) (0) 0 rfl (faW0 _ _) ⟨rfl, hM⟩)
          · exact fun wx hM => gw rfl (g_ld1 3 _ (p) 0 _ rfl (ld3 _ _ _ _ ((hM.get 2 rfl).cell 0 _ rfl)) ⟨rfl, hM⟩)
          · exact fun wx hM => gw rfl (g_igtr 3 _ _ .i64 (((q : Nat) : Int)) (((a : Nat) : Int)) true rfl rfl (decide_eq_true hlt) ⟨rfl, hM⟩)
        · simp only [fullL, Act.put, st_a, st_s, st_0]
          intro w9 hM
          refine hK8 _ _ ?_
          (try clear hK8 K8)
          refine wp_cond_true rfl ?_
          refine wp_skip ?_
          refine hK7 _ _ ?_
          (try clear hK7 K7)
          refine wp_block ?_
          refine wp_seq_k (fun K10 hK10 => ?_)
          refine wp_region_fixed (by kernel_rfl) (by kernel_rfl) [.pointer (some ⟨p5, 0, none⟩), .int .i64 (((q : Nat) : Int)), .pointer (some ⟨p, 0, none⟩), .pointer (some ⟨p, 0, none⟩), .pointer (some ⟨p, 0, none⟩), .int .i64 (((a : Nat) : Int)), .int .i64 (d), .int .i64 (d1), .int .i64 (((st : Nat) : Int)), .int .i64 (((st : Nat) : Int))] (by rfl) (fun wx => Ms w0 wx (blk (p5) (mk (((q : Nat) : Int)) (wl (n - q) L)) 142 :: blk (w.heap.size) (mk (0) (zk)) 142 :: blk (p) (wc (((a : Nat) : Int)) ((n : Int) + 1) (.slice ao (m) (cap))) 145 :: row 142 33 (.slice ao m cap) m (fm n L ms) :: R)) hM.drew ?_ ?_
          · simp only [fullL, Act.put, st_a, st_s, st_0]
            refine ⟨?_, ?_, ?_, ?_, ?_, ?_, ?_, ?_, ?_, ?_, trivial⟩
            · exact fun wx hM => gw rfl (g_fa 142 _ (p5) (0) (0) 0 rfl (faM0 _ _ _) ⟨rfl, hM⟩)
            · exact fun wx hM => gw rfl (g_ld1 3 _ (p5) 0 _ rfl (ld3 _ _ _ _ ((hM.get 0 rfl).cell 0 _ (mk_at _ _))) ⟨rfl, hM⟩)
            · exact fun wx hM => gw rfl (g_move _ (.pointer (some ⟨p, 0, none⟩)) rfl ⟨rfl, hM⟩)
            · exact fun wx hM => gw rfl (g_nil _ ⟨p, 0, none⟩ rfl ⟨rfl, hM⟩)
            · exact fun wx hM => gw rfl (g_fa 145 _ (p) (0) (0) 0 rfl (faW0 _ _) ⟨rfl, hM⟩)
            · exact fun wx hM => gw rfl (g_ld1 3 _ (p) 0 _ rfl (ld3 _ _ _ _ ((hM.get 2 rfl).cell 0 _ rfl)) ⟨rfl, hM⟩)
            · exact fun wx hM => gw rfl (g_isub 3 _ _ .i64 (((q : Nat) : Int)) (((a : Nat) : Int)) (d) rfl rfl (e1.out) ⟨rfl, hM⟩)
            · exact fun wx hM => gw rfl (g_ia 3 _ _ .i64 (d) (1) (d1) rfl rfl (e2.out) ⟨rfl, hM⟩)
            · exact fun wx hM => gw rfl (g_iquo 3 _ _ .i64 (d1) (2) (((st : Nat) : Int)) rfl rfl (by decide) e3.out ⟨rfl, hM⟩)
            · exact fun wx hM => gw rfl (g_assign _ (.int .i64 (((st : Nat) : Int))) rfl ⟨rfl, hM⟩)
          · simp only [fullL, Act.put, st_a, st_s, st_0]
            intro w11 hM
            refine hK10 _ _ ?_
            (try clear hK10 K10)
            refine wp_seq_k (fun K12 hK12 => ?_)
            refine wp_region_steps (by kernel_rfl) (by kernel_rfl) [9] [0, 0, 0, 0, 0, 0, 0, 0, 0, 0] [0, 0, 0, 0, 0, 0, 0, 0, 0, 1] (by kernel_rfl) (Pm := Unit) (fun π => [.pointer (some ⟨p5, 0, none⟩), .int .i64 (((q : Nat) : Int)), .int .i64 (((st : Nat) : Int)), .int .i64 (((q2 : Nat) : Int)), .pointer (some ⟨p5, 1, none⟩), .agg (kc (wl (n - q) L)).toArray, .int .i64 (((st : Nat) : Int)), .agg (kc (K2)).toArray, .agg (mk (((q2 : Nat) : Int)) (K2)).toArray, undef]) (fun _ => by rfl) (fun j_ π wx => match j_ with | 0 => Ms w0 wx (blk (p5) (mk (((q : Nat) : Int)) (wl (n - q) L)) 142 :: blk (w.heap.size) (mk (0) (zk)) 142 :: blk (p) (wc (((a : Nat) : Int)) ((n : Int) + 1) (.slice ao (m) (cap))) 145 :: row 142 33 (.slice ao m cap) m (fm n L ms) :: R) | _ => Ms w0 wx (blk (p5) (mk (((q2 : Nat) : Int)) (K2)) 142 :: blk (w.heap.size) (mk (0) (zk)) 142 :: blk (p) (wc (((a : Nat) : Int)) ((n : Int) + 1) (.slice ao (m) (cap))) 145 :: row 142 33 (.slice ao m cap) m (fm n L ms) :: R)) () hM.drew ?_ ?_ ?_
            · intro j_ k_ o_ hj_ ho_ π wx hM
              rcases j_ with _ | j_
              · obtain rfl := Option.some.inj hj_
                obtain rfl := Option.some.inj ho_
                simp only [fullL, Act.put, st_a, st_s, st_0]
                replace hM : Ms w0 wx (blk (p5) (mk (((q : Nat) : Int)) (wl (n - q) L)) 142 :: blk (w.heap.size) (mk (0) (zk)) 142 :: blk (p) (wc (((a : Nat) : Int)) ((n : Int) + 1) (.slice ao (m) (cap))) 145 :: row 142 33 (.slice ao m cap) m (fm n L ms) :: R) := hM
                exact gw rfl (g_store_all 142 _ _ (p5) (mk (((q2 : Nat) : Int)) (K2)) _ 142 rfl rfl (hM.get 0 rfl) (szMk _ _) (mm_len _ _ _ _) (one_mk _ _) (fun w' t_ b_ => ⟨(), rfl, (fun _ _ _ => by first | rfl | trivial), hM.put 0 rfl t_ b_⟩))
              · simp at hj_
            · intro i_ o_ ho_ hi_ j_ hd_ hh_ hj_ π wx hM
              simp only [fullL, Act.put, st_a, st_s, st_0]
              rcases i_ with _ | _ | _ | _ | _ | _ | _ | _ | _ | _ | i_
              · obtain rfl := Option.some.inj ho_
                exact gw rfl (g_fa 142 _ (p5) (0) (0) 0 rfl (faM0 _ _ _) ⟨rfl, hM⟩)
              · obtain rfl := Option.some.inj ho_
                rcases j_ with _ | _ | j_
                · replace hM : Ms w0 wx (blk (p5) (mk (((q : Nat) : Int)) (wl (n - q) L)) 142 :: blk (w.heap.size) (mk (0) (zk)) 142 :: blk (p) (wc (((a : Nat) : Int)) ((n : Int) + 1) (.slice ao (m) (cap))) 145 :: row 142 33 (.slice ao m cap) m (fm n L ms) :: R) := hM
                  exact gw rfl (g_ld1 3 _ (p5) 0 _ rfl (ld3 _ _ _ _ ((hM.get 0 rfl).cell 0 _ (mk_at _ _))) ⟨rfl, hM⟩)
                · exact absurd hh_ (by decide)
                · exact absurd hj_ (by simp)
              · obtain rfl := Option.some.inj ho_
                exact gw rfl (g_move _ (.int .i64 (((st : Nat) : Int))) rfl ⟨rfl, hM⟩)
              · obtain rfl := Option.some.inj ho_
                exact gw rfl (g_isub 3 _ _ .i64 (((q : Nat) : Int)) (((st : Nat) : Int)) (((q2 : Nat) : Int)) rfl rfl (e4.out) ⟨rfl, hM⟩)
              · obtain rfl := Option.some.inj ho_
                exact gw rfl (g_fa 142 _ (p5) (0) (1) 1 rfl (faM1 _ _ _) ⟨rfl, hM⟩)
              · obtain rfl := Option.some.inj ho_
                rcases j_ with _ | _ | j_
                · replace hM : Ms w0 wx (blk (p5) (mk (((q : Nat) : Int)) (wl (n - q) L)) 142 :: blk (w.heap.size) (mk (0) (zk)) 142 :: blk (p) (wc (((a : Nat) : Int)) ((n : Int) + 1) (.slice ao (m) (cap))) 145 :: row 142 33 (.slice ao m cap) m (fm n L ms) :: R) := hM
                  exact gw rfl (g_load 23 _ (p5) 1 32 _ 142 _ rfl (hM.get 0 rfl) Tryz.underlying23 rfl size23 (by rw [mk_length]; decide) (kc (wl (n - q) L)) (mk_key _ _) ⟨rfl, hM⟩)
                · exact absurd hh_ (by decide)
                · exact absurd hj_ (by simp)
              · obtain rfl := Option.some.inj ho_
                exact gw rfl (g_move _ (.int .i64 (((st : Nat) : Int))) rfl ⟨rfl, hM⟩)
              · obtain rfl := Option.some.inj ho_
                rcases j_ with _ | _ | j_
                · replace hM : Ms w0 wx (blk (p5) (mk (((q : Nat) : Int)) (wl (n - q) L)) 142 :: blk (w.heap.size) (mk (0) (zk)) 142 :: blk (p) (wc (((a : Nat) : Int)) ((n : Int) + 1) (.slice ao (m) (cap))) 145 :: row 142 33 (.slice ao m cap) m (fm n L ms) :: R) := hM
                  exact gw rfl (g_call 90 _ _ [.agg (kc (wl (n - q) L)).toArray, .int .i64 (((st : Nat) : Int))] (kf90 _ _) rfl ((swalk_any (wl (n - q) L) K2 ((st : Nat) : Int) wx (hM.tabs hT) hK2).mono (fun _ _ ⟨h1_, h2_⟩ => ⟨_, h1_, rfl, hM.call h2_⟩)))
                · exact absurd hh_ (by decide)
                · exact absurd hj_ (by simp)
              · obtain rfl := Option.some.inj ho_
                exact gw rfl (g_bldMk _ _ (((q2 : Nat) : Int)) (K2) rfl rfl ⟨rfl, hM⟩)
              · exact absurd (by decide) hi_
              · simp at ho_
            · simp only [fullL, Act.put, st_a, st_s, st_0]
              rintro ⟨⟩ w13 hM
              replace hM : Ms w0 w13 (blk (p5) (mk (((q2 : Nat) : Int)) (K2)) 142 :: blk (w.heap.size) (mk (0) (zk)) 142 :: blk (p) (wc (((a : Nat) : Int)) ((n : Int) + 1) (.slice ao (m) (cap))) 145 :: row 142 33 (.slice ao m cap) m (fm n L ms) :: R) := hM
              refine hK12 _ _ ?_
              (try clear hK12 K12)
              refine wp_region_steps (by kernel_rfl) (by kernel_rfl) [6, 7, 10] [0, 0, 0, 0, 0, 0, 0, 1, 2, 2, 2] [2, 2, 2, 2, 1, 0, 1, 2, 3, 2, 3] (by kernel_rfl) (Pm := Nat × Value) (fun π => [.pointer (some ⟨p, 0, none⟩), .pointer (some ⟨p, 0, none⟩), .pointer (some ⟨p, 0, none⟩), .pointer (some ⟨p, 2, none⟩), .slice ao (m) (cap), .agg (mk (((q2 : Nat) : Int)) (K2)).toArray, .slice (some ⟨π.1, 0, none⟩) (1) (1), π.2, .pointer (some ⟨p, 0, none⟩), .pointer (some ⟨p, 2, none⟩), undef]) (fun _ => by rfl) (fun j_ π wx => match j_ with | 0 => Ms w0 wx (blk (p5) (mk (((q2 : Nat) : Int)) (K2)) 142 :: blk (w.heap.size) (mk (0) (zk)) 142 :: blk (p) (wc (((a : Nat) : Int)) ((n : Int) + 1) (.slice ao (m) (cap))) 145 :: row 142 33 (.slice ao m cap) m (fm n L ms) :: R) | 1 => Ms w0 wx (blk (π.1) (mk (((q2 : Nat) : Int)) (K2)) 142 :: blk (p5) (mk (((q2 : Nat) : Int)) (K2)) 142 :: blk (w.heap.size) (mk (0) (zk)) 142 :: blk (p) (wc (((a : Nat) : Int)) ((n : Int) + 1) (.slice ao (m) (cap))) 145 :: row 142 33 (.slice ao m cap) m (fm n L ms) :: R) | 2 => Ms w0 wx (row 142 33 (π.2) (m + 1) (fm n L ms ++ mk (((q2 : Nat) : Int)) (K2)) :: blk (π.1) (mk (((q2 : Nat) : Int)) (K2)) 142 :: blk (p5) (mk (((q2 : Nat) : Int)) (K2)) 142 :: blk (w.heap.size) (mk (0) (zk)) 142 :: blk (p) (wc (((a : Nat) : Int)) ((n : Int) + 1) (.slice ao (m) (cap))) 145 :: R) | _ => Ms w0 wx (row 142 33 (π.2) (m + 1) (fm n L ms ++ mk (((q2 : Nat) : Int)) (K2)) :: blk (π.1) (mk (((q2 : Nat) : Int)) (K2)) 142 :: blk (p5) (mk (((q2 : Nat) : Int)) (K2)) 142 :: blk (w.heap.size) (mk (0) (zk)) 142 :: blk (p) (wc (((a : Nat) : Int)) ((n : Int) + 1) (π.2)) 145 :: R)) (0, undef) hM.drew ?_ ?_ ?_
              · intro j_ k_ o_ hj_ ho_ π wx hM
                rcases j_ with _ | _ | _ | j_
                · obtain rfl := Option.some.inj hj_
                  obtain rfl := Option.some.inj ho_
                  simp only [fullL, Act.put, st_a, st_s, st_0]
                  replace hM : Ms w0 wx (blk (p5) (mk (((q2 : Nat) : Int)) (K2)) 142 :: blk (w.heap.size) (mk (0) (zk)) 142 :: blk (p) (wc (((a : Nat) : Int)) ((n : Int) + 1) (.slice ao (m) (cap))) 145 :: row 142 33 (.slice ao m cap) m (fm n L ms) :: R) := hM
                  exact gw rfl (g_bsMk _ (((q2 : Nat) : Int)) (K2) rfl (fun w' t_ b_ => ⟨(wx.heap.size, π.2), rfl, fun i h1 h2 => by rcases i with _ | _ | _ | _ | _ | _ | _ | _ | _ | _ | _ | i <;> first | rfl | trivial | exact absurd rfl h2 | exact absurd h1 (by decide), hM.new t_ b_⟩))
                · obtain rfl := Option.some.inj hj_
                  obtain rfl := Option.some.inj ho_
                  simp only [fullL, Act.put, st_a, st_s, st_0]
                  replace hM : Ms w0 wx (blk (π.1) (mk (((q2 : Nat) : Int)) (K2)) 142 :: blk (p5) (mk (((q2 : Nat) : Int)) (K2)) 142 :: blk (w.heap.size) (mk (0) (zk)) 142 :: blk (p) (wc (((a : Nat) : Int)) ((n : Int) + 1) (.slice ao (m) (cap))) 145 :: row 142 33 (.slice ao m cap) m (fm n L ms) :: R) := hM
                  exact gw rfl (g_apR _ _ 143 142 33 mkI mkZ 40 Tryz.underlying143 mkI_info mkI_zero mkI_size mkI_bytes mkZ_size (.slice ao (m) (cap)) m (fm n L ms) (π.1) 1 (mk (((q2 : Nat) : Int)) (K2)) 142 rfl rfl (show Ms w0 wx (row 142 33 (.slice ao m cap) m (fm n L ms) :: blk (π.1) (mk (((q2 : Nat) : Int)) (K2)) 142 :: blk (p5) (mk (((q2 : Nat) : Int)) (K2)) 142 :: blk (w.heap.size) (mk (0) (zk)) 142 :: blk (p) (wc (((a : Nat) : Int)) ((n : Int) + 1) (.slice ao (m) (cap))) 145 :: R) from (hM.up 4 rfl)) (mk_length _ _) (one_mk _ _) (by omega) (by omega) (fun v' w' h_ => ⟨(π.1, v'), rfl, fun i h1 h2 => by rcases i with _ | _ | _ | _ | _ | _ | _ | _ | _ | _ | _ | i <;> first | rfl | trivial | exact absurd rfl h2 | exact absurd h1 (by decide), h_⟩))
                · obtain rfl := Option.some.inj hj_
                  obtain rfl := Option.some.inj ho_
                  simp only [fullL, Act.put, st_a, st_s, st_0]
                  replace hM : Ms w0 wx (row 142 33 (π.2) (m + 1) (fm n L ms ++ mk (((q2 : Nat) : Int)) (K2)) :: blk (π.1) (mk (((q2 : Nat) : Int)) (K2)) 142 :: blk (p5) (mk (((q2 : Nat) : Int)) (K2)) 142 :: blk (w.heap.size) (mk (0) (zk)) 142 :: blk (p) (wc (((a : Nat) : Int)) ((n : Int) + 1) (.slice ao (m) (cap))) 145 :: R) := hM
                  exact gw rfl (g_st1 143 _ _ (p) 2 (π.2) _ 145 rfl rfl (hM.get 4 rfl) (show 2 < 3 by decide) (row_one hM).2 (row_one hM).1 sizeMs (fun w' t_ b_ => ⟨(π.1, π.2), rfl, fun i h1 h2 => by rcases i with _ | _ | _ | _ | _ | _ | _ | _ | _ | _ | _ | i <;> first | rfl | trivial | exact absurd rfl h2 | exact absurd h1 (by decide), hM.put 4 rfl t_ b_⟩))
                · simp at hj_
              · intro i_ o_ ho_ hi_ j_ hd_ hh_ hj_ π wx hM
                simp only [fullL, Act.put, st_a, st_s, st_0]
                rcases i_ with _ | _ | _ | _ | _ | _ | _ | _ | _ | _ | _ | i_
                · obtain rfl := Option.some.inj ho_
                  exact gw rfl (g_move _ (.pointer (some ⟨p, 0, none⟩)) rfl ⟨rfl, hM⟩)
                · obtain rfl := Option.some.inj ho_
                  exact gw rfl (g_move _ (.pointer (some ⟨p, 0, none⟩)) rfl ⟨rfl, hM⟩)
                · obtain rfl := Option.some.inj ho_
                  exact gw rfl (g_nil _ ⟨p, 0, none⟩ rfl ⟨rfl, hM⟩)
                · obtain rfl := Option.some.inj ho_
                  exact gw rfl (g_fa 145 _ (p) (0) (2) 2 rfl (faW2 _ _) ⟨rfl, hM⟩)
                · obtain rfl := Option.some.inj ho_
                  rcases j_ with _ | _ | _ | _ | j_
                  · replace hM : Ms w0 wx (blk (p5) (mk (((q2 : Nat) : Int)) (K2)) 142 :: blk (w.heap.size) (mk (0) (zk)) 142 :: blk (p) (wc (((a : Nat) : Int)) ((n : Int) + 1) (.slice ao (m) (cap))) 145 :: row 142 33 (.slice ao m cap) m (fm n L ms) :: R) := hM
                    exact gw rfl (g_ld1 143 _ (p) 2 _ rfl (ldMs _ _ _ _ ((hM.get 2 rfl).cell 2 _ rfl)) ⟨rfl, hM⟩)
                  · replace hM : Ms w0 wx (blk (π.1) (mk (((q2 : Nat) : Int)) (K2)) 142 :: blk (p5) (mk (((q2 : Nat) : Int)) (K2)) 142 :: blk (w.heap.size) (mk (0) (zk)) 142 :: blk (p) (wc (((a : Nat) : Int)) ((n : Int) + 1) (.slice ao (m) (cap))) 145 :: row 142 33 (.slice ao m cap) m (fm n L ms) :: R) := hM
                    exact gw rfl (g_ld1 143 _ (p) 2 _ rfl (ldMs _ _ _ _ ((hM.get 3 rfl).cell 2 _ rfl)) ⟨rfl, hM⟩)
                  · exact absurd hh_ (by decide)
                  · exact absurd hh_ (by decide)
                  · exact absurd hj_ (by simp)
                · obtain rfl := Option.some.inj ho_
                  rcases j_ with _ | _ | _ | _ | j_
                  · replace hM : Ms w0 wx (blk (p5) (mk (((q2 : Nat) : Int)) (K2)) 142 :: blk (w.heap.size) (mk (0) (zk)) 142 :: blk (p) (wc (((a : Nat) : Int)) ((n : Int) + 1) (.slice ao (m) (cap))) 145 :: row 142 33 (.slice ao m cap) m (fm n L ms) :: R) := hM
                    exact gw rfl (g_load_all 142 _ (p5) (mk (((q2 : Nat) : Int)) (K2)) 142 _ rfl (hM.get 0 rfl) Tryz.underlying142 rfl (szMk _ _) ⟨rfl, hM⟩)
                  · exact absurd hh_ (by decide)
                  · exact absurd hh_ (by decide)
                  · exact absurd hh_ (by decide)
                  · exact absurd hj_ (by simp)
                · exact absurd (by decide) hi_
                · exact absurd (by decide) hi_
                · obtain rfl := Option.some.inj ho_
                  exact gw rfl (g_nil _ ⟨p, 0, none⟩ rfl ⟨rfl, hM⟩)
                · obtain rfl := Option.some.inj ho_
                  exact gw rfl (g_fa 145 _ (p) (0) (2) 2 rfl (faW2 _ _) ⟨rfl, hM⟩)
                · exact absurd (by decide) hi_
                · simp at ho_
              · simp only [fullL, Act.put, st_a, st_s, st_0]
                rintro ⟨p15, v16⟩ w14 hM
                replace hM : Ms w0 w14 (row 142 33 (v16) (m + 1) (fm n L ms ++ mk (((q2 : Nat) : Int)) (K2)) :: blk (p15) (mk (((q2 : Nat) : Int)) (K2)) 142 :: blk (p5) (mk (((q2 : Nat) : Int)) (K2)) 142 :: blk (w.heap.size) (mk (0) (zk)) 142 :: blk (p) (wc (((a : Nat) : Int)) ((n : Int) + 1) (v16)) 145 :: R) := hM
                (try simp only [Exit.then, Exit.inBlock, ↓reduceIte, Nat.reduceEqDiff])
                have h8 : Ms w0 w14 (row 142 33 (v16) (m + 1) (fm n L ms ++ mk (((q2 : Nat) : Int)) (K2)) :: blk (p5) (mk (((q2 : Nat) : Int)) (K2)) 142 :: blk (w.heap.size) (mk (0) (zk)) 142 :: blk (p) (wc (((a : Nat) : Int)) ((n : Int) + 1) (v16)) 145 :: R) := (hM.erase 1)
                have h9 := ((((h8.up 0 rfl).up 3 rfl).up 3 rfl).up 3 rfl)
                rw [← hK3.out, ← fm_snoc] at h9
                have hcell9 := (h9.get 0 rfl).cell 0 _ (mk_at _ _)
                go_roundw
                case rel => exact ⟨_, m + 1, q2, ms ++ [q2], hok2.out, by rw [List.length_append, hlen]; rfl, by simp, h9⟩
                case measure =>
                  rw [hcell9, hcell0]
                  have := hlt2.out
                  simp [intOf]; omega
      · have hqa : Shut (q = a) := ⟨by omega⟩
        refine wp_seq_k (fun K17 hK17 => ?_)
        refine wp_seq_k (fun K18 hK18 => ?_)
        refine wp_region_fixed (by kernel_rfl) (by kernel_rfl) [.pointer (some ⟨p5, 0, none⟩), .int .i64 (((q : Nat) : Int)), .pointer (some ⟨p, 0, none⟩), .pointer (some ⟨p, 0, none⟩), .pointer (some ⟨p, 0, none⟩), .int .i64 (((a : Nat) : Int)), .bool false] (by rfl) (fun wx => Ms w0 wx (blk (p5) (mk (((q : Nat) : Int)) (wl (n - q) L)) 142 :: blk (w.heap.size) (mk (0) (zk)) 142 :: blk (p) (wc (((a : Nat) : Int)) ((n : Int) + 1) (.slice ao (m) (cap))) 145 :: row 142 33 (.slice ao m cap) m (fm n L ms) :: R)) hM.drew ?_ ?_
        · simp only [fullL, Act.put, st_a, st_s, st_0]
          refine ⟨?_, ?_, ?_, ?_, ?_, ?_, ?_, trivial⟩
          · exact fun wx hM => gw rfl (g_fa 142 _ (p5) (0) (0) 0 rfl (faM0 _ _ _) ⟨rfl, hM⟩)
          · exact fun wx hM => gw rfl (g_ld1 3 _ (p5) 0 _ rfl (ld3 _ _ _ _ ((hM.get 0 rfl).cell 0 _ (mk_at _ _))) ⟨rfl, hM⟩)
          · exact fun wx hM => gw rfl (g_move _ (.pointer (some ⟨p, 0, none⟩)) rfl ⟨rfl, hM⟩)
          · exact fun wx hM => gw rfl (g_nil _ ⟨p, 0, none⟩ rfl ⟨rfl, hM⟩)
          · exact fun wx hM => gw rfl (g_fa 145 _ (p) (0) (0) 0 rfl (faW0 _ _) ⟨rfl, hM⟩)
          · exact fun wx hM => gw rfl (g_ld1 3 _ (p) 0 _ rfl (ld3 _ _ _ _ ((hM.get 2 rfl).cell 0 _ rfl)) ⟨rfl, hM⟩)
          · exact fun wx hM => gw rfl (g_igtr 3 _ _ .i64 (((q : Nat) : Int)) (((a : Nat) : Int)) false rfl rfl (decide_eq_false hlt) ⟨rfl, hM⟩)
        · simp only [fullL, Act.put, st_a, st_s, st_0]
          intro w19 hM
          refine hK18 _ _ ?_
          (try clear hK18 K18)
          refine wp_cond_false rfl ?_
          refine wp_exit ?_
          refine hK6 _ _ ?_
          (try clear hK6 K6)
          refine wp_seq_k (fun K20 hK20 => ?_)
          refine wl_region ?_
          refine wl_give rfl (g_load_all 142 _ (p5) (mk (((q : Nat) : Int)) (wl (n - q) L)) 142 _ rfl (hM.get 0 rfl) Tryz.underlying142 rfl (szMk _ _) ?_)
          (try simp only [Act.put, st_a, st_0, st_s])
          refine wl_give rfl (g_store_all 142 _ _ (w.heap.size) (mk (((q : Nat) : Int)) (wl (n - q) L)) _ 142 rfl rfl (hM.get 1 rfl) (szMk _ _) (mm_len _ _ _ _) (one_mk _ _) ?_)
          intro w21 t_ b_
          replace hM : Ms w0 w21 (blk (p5) (mk (((q : Nat) : Int)) (wl (n - q) L)) 142 :: blk (w.heap.size) (mk (((q : Nat) : Int)) (wl (n - q) L)) 142 :: blk (p) (wc (((a : Nat) : Int)) ((n : Int) + 1) (.slice ao (m) (cap))) 145 :: row 142 33 (.slice ao m cap) m (fm n L ms) :: R) := hM.put 1 rfl t_ b_
          clear t_ b_
          (try simp only [Act.put, st_a, st_0, st_s])
          refine wl_nil ?_
          refine hK20 _ _ ?_
          (try clear hK20 K20)
          refine wp_ret ?_
          (try simp only [Exit.inBlock, Exit.then])
          refine bodyPost_ret (results_blk rfl _ (mk (((q : Nat) : Int)) (wl (n - q) L)) _ rfl (hM.get 1 rfl) Tryz.underlying142 rfl (szMk _ _)) rfl ⟨m, by rw [hqa.out], ?_⟩
          exact wk_mk hM.tail.tail hok hlen
end Go.Proofs.YtcclcemdodoiiaaGreatDoor
