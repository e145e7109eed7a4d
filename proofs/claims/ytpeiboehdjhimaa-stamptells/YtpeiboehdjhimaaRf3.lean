/- What the reference's Fold answers; nothing that was there is changed. -/
import Derived.Test.YtpeiboehdjhimaaRf2
namespace Go.Proofs.Ytpeiboehdjhimaa
open Go Go.RowKit
set_option linter.unusedVariables false
theorem take_end (l : List Bool) (k : Nat) (h : k = 64 ∨ k = l.length) (hk : k ≤ 64) : val (l.take k) = val l % 18446744073709551616 := by
  have h1 := val_split' l k
  have h2 := val_take_lt l 64
  rcases h with rfl | rfl
  · rw [show (2 : Nat) ^ 64 = 18446744073709551616 from rfl] at h1 h2
    omega
  · have h3 : val (l.drop l.length) = 0 := by rw [List.drop_length]; rfl
    have h4 := val_take_lt l l.length
    have h5 : 2 ^ l.length ≤ 2 ^ 64 := Nat.pow_le_pow_right (by omega) hk
    rw [show (2 : Nat) ^ 64 = 18446744073709551616 from rfl] at h5
    rw [h3] at h1
    rw [h1]
    omega

set_option maxRecDepth 10000 in
set_option maxHeartbeats 4000000 in
theorem rfold_0 (ba : Value) (z L : Int) (w : World) (ra : RF w false ba z) (fz : Few z 200) (hL : z % 18446744073709551616 = L) (hs : ¬ z < 0) :
    Calls Try.prog 23 #[.agg #[.bool false, ba]] w fun e w' => e = .returned (.int .u64 L) ∧ Below w.heap.size w w' := by
  go_enter Try.func23, Try.ntmps23
  go_wp2_with (first
    | ((with_reducible refine at_boxD 1 32 ?_); refine L_box 32 _ ([.bool false, ba]) rfl ?_; intro w1 t_ b_m; have l_m : w.heap.size ≤ w.heap.size := Nat.le_refl _; replace ra := ra.below t_.toBelow; have hB : Below w.heap.size w w1 := t_.below (Below.refl _ _) (Nat.le_refl _); clear t_))
  refine (era_any w1).mono ?_
  rintro e w2 ⟨_, rfl, ⟨s_n7, v_n7, rfl, r_n7⟩, t_⟩
  replace ra := ra.below t_
  replace b_m := b_m.below t_ b_m.lt
  replace hB := hB.trans (t_.mono hB.size)
  clear t_
  go_wp2_with (first
    | ((with_reducible refine at_allocD 3 32 ?_); refine L_alloc 32 ([.bool false, .slice none 0 0]) zeroR ?_; intro w3 t_ b_e; have l_e : w.heap.size ≤ w2.heap.size := hB.size; have o_e := b_m.lt; replace ra := ra.below t_.toBelow; replace r_n7 := r_n7.below t_.toBelow; replace b_m := t_.blk b_m (by omega); replace hB := t_.below hB l_e; clear t_)
    | ((with_reducible refine at_storeX 3 32 ?_); refine L_store_all 32 _ _ (w2.heap.size) ([.bool s_n7, v_n7]) _ 32 rfl rfl b_e (szR) (rfl) (one_rc _ _ r_n7.sl) ?_; have b0_e := b_e; clear b_e; intro w4 t_ b_e; replace ra := ra.turn t_ b0_e (by decide); replace r_n7 := r_n7.turn t_ b0_e (by decide); replace b_m := t_.blk b_m (by omega); replace hB := t_.below hB l_e; clear t_ b0_e)
    | ((with_reducible refine at_loadD 8 32 ?_); refine L_load_all 32 _ (w.heap.size) ([.bool false, ba]) 32 _ rfl b_m Try.underlying32 rfl (szR) ?_)
    | ((with_reducible refine at_allocD 4 32 ?_); refine L_alloc 32 ([.bool false, .slice none 0 0]) zeroR ?_; intro w5 t_ b_x; have l_x : w.heap.size ≤ w4.heap.size := hB.size; have o_x := b_e.lt; replace ra := ra.below t_.toBelow; replace r_n7 := r_n7.below t_.toBelow; replace b_m := t_.blk b_m (by omega); replace b_e := t_.blk b_e (by omega); replace hB := t_.below hB l_x; clear t_)
    | ((with_reducible refine at_storeX 4 32 ?_); refine L_store_all 32 _ _ (w4.heap.size) ([.bool false, ba]) _ 32 rfl rfl b_x (szR) (rfl) (one_rc _ _ ra.sl) ?_; have b0_x := b_x; clear b_x; intro w6 t_ b_x; replace ra := ra.turn t_ b0_x (by decide); replace r_n7 := r_n7.turn t_ b0_x (by decide); replace b_m := t_.blk b_m (by omega); replace b_e := t_.blk b_e (by omega); replace hB := t_.below hB l_x; clear t_ b0_x)
    | ((with_reducible refine at_loadD 10 4 ?_); refine L_give (by rfl) (g_cell4 _ (w.heap.size) 0 ([.bool false, ba]) 32 (.bool false) rfl b_m (rfl) ?_)))
  obtain ⟨l, rdx, hcl, hvl⟩ := ra.list
  obtain ⟨g_, cap_, sp_, en, -⟩ := id rdx
  have be_ := r_n7.list
  obtain ⟨le, rde, hce, hve⟩ := be_
  obtain ⟨ge_, cape_, spe_, ee, -⟩ := id rde
  subst en
  subst ee
  have hle : 0 < le.length := by
    cases le with
    | nil => simp [val_nil] at hve
    | cons b t => simp
  have cm := b_m.cell 0 _ rfl
  have cx := b_x.cell 1 _ rfl
  have ce := b_e.cell 1 _ rfl
  have hcell := fun k hk => bit_cell (Below.refl _ _) rdx k hk
  generalize hle2 : le.length = ln at *
  clear rde hce hve hle2  r_n7 hcl ra
  go_loop [5, 6] (fun lv i => ∃ k : Nat, k ≤ 64 ∧ k ≤ l.length ∧ i = .int .i64 k ∧ lv = .int .u64 (val (l.take k) : Nat)) (fun _ i => 64 - (intOf i).toNat)
  case atStart => exact ⟨0, by omega, by omega, rfl, rfl⟩
  case round =>
    obtain ⟨k, hk, hkl, rfl, rfl⟩ := hrel
    by_cases hlt : k < 64 ∧ k < l.length
    · obtain ⟨hl1, hl2⟩ := hlt
      have hi1 : (k : Int) < 64 := by omega
      have hi2 : (k : Int) < (l.length : Nat) := by omega
      obtain ⟨A, hA⟩ : ∃ A, atB l k = A := ⟨_, rfl⟩
      obtain ⟨s1, s2⟩ := low_step l k hl1 A hA
      have hc := hcell k hl2
      rw [hA] at hc
      generalize val (l.take k) = p1 at *
      clear hcell hA
      replace s2 : Hid _ := s2
      replace s1 : Hid _ := s1
      cases A
      · go_wp2_with fail
        exact ⟨⟨k + 1, by omega, by omega, by go_num, by rw [s1.out]; try simp [bit]⟩, by simp [intOf]; omega⟩
      · go_wp2_with (first
          | ((with_reducible refine at_binD 31 ?_); refine L_give (by rfl) (g_shl1 _ k hl1 rfl ?_))
          | ((with_reducible refine at_binD 32 ?_); refine L_give (by rfl) (g_uadd _ _ _ _ _ rfl rfl s2.out ?_)))
        exact ⟨⟨k + 1, by omega, by omega, by go_num, by rw [s1.out]; try simp [bit]⟩, by simp [intOf]; omega⟩
    · have hend : k = 64 ∨ k = l.length := by omega
      have hval := take_end l k hend hk
      have hq : ¬ ((k : Int) < 64) ∨ ((k : Int) < 64 ∧ ¬ (k : Int) < (l.length : Nat)) := by omega
      have hL2 : ((val (l.take k) : Nat) : Int) = L := by rw [hval]; omega
      rcases hq with hq | ⟨hq, hq2⟩
      · clear hcell hlt hend hk hkl hval
        go_wp2_with fail
        go_ret
        exact ⟨rfl, hB⟩
      · clear hcell hlt hend hk hkl hval
        go_wp2_with fail
        go_ret
        exact ⟨rfl, hB⟩

set_option maxRecDepth 10000 in
set_option maxHeartbeats 4000000 in
theorem rfold_1 (ba : Value) (z L : Int) (w : World) (ra : RF w true ba z) (fz : Few z 200) (hL : z % 18446744073709551616 = L) (hs : z < 0) :
    Calls Try.prog 23 #[.agg #[.bool true, ba]] w fun e w' => e = .returned (.int .u64 L) ∧ Below w.heap.size w w' := by
  go_enter Try.func23, Try.ntmps23
  go_wp2_with (first
    | ((with_reducible refine at_boxD 1 32 ?_); refine L_box 32 _ ([.bool true, ba]) rfl ?_; intro w1 t_ b_m; have l_m : w.heap.size ≤ w.heap.size := Nat.le_refl _; replace ra := ra.below t_.toBelow; have hB : Below w.heap.size w w1 := t_.below (Below.refl _ _) (Nat.le_refl _); clear t_))
  refine (era_any w1).mono ?_
  rintro e w2 ⟨_, rfl, ⟨s_n7, v_n7, rfl, r_n7⟩, t_⟩
  replace ra := ra.below t_
  replace b_m := b_m.below t_ b_m.lt
  replace hB := hB.trans (t_.mono hB.size)
  clear t_
  go_wp2_with (first
    | ((with_reducible refine at_allocD 3 32 ?_); refine L_alloc 32 ([.bool false, .slice none 0 0]) zeroR ?_; intro w3 t_ b_e; have l_e : w.heap.size ≤ w2.heap.size := hB.size; have o_e := b_m.lt; replace ra := ra.below t_.toBelow; replace r_n7 := r_n7.below t_.toBelow; replace b_m := t_.blk b_m (by omega); replace hB := t_.below hB l_e; clear t_)
    | ((with_reducible refine at_storeX 3 32 ?_); refine L_store_all 32 _ _ (w2.heap.size) ([.bool s_n7, v_n7]) _ 32 rfl rfl b_e (szR) (rfl) (one_rc _ _ r_n7.sl) ?_; have b0_e := b_e; clear b_e; intro w4 t_ b_e; replace ra := ra.turn t_ b0_e (by decide); replace r_n7 := r_n7.turn t_ b0_e (by decide); replace b_m := t_.blk b_m (by omega); replace hB := t_.below hB l_e; clear t_ b0_e)
    | ((with_reducible refine at_loadD 8 32 ?_); refine L_load_all 32 _ (w.heap.size) ([.bool true, ba]) 32 _ rfl b_m Try.underlying32 rfl (szR) ?_)
    | ((with_reducible refine at_allocD 4 32 ?_); refine L_alloc 32 ([.bool false, .slice none 0 0]) zeroR ?_; intro w5 t_ b_x; have l_x : w.heap.size ≤ w4.heap.size := hB.size; have o_x := b_e.lt; replace ra := ra.below t_.toBelow; replace r_n7 := r_n7.below t_.toBelow; replace b_m := t_.blk b_m (by omega); replace b_e := t_.blk b_e (by omega); replace hB := t_.below hB l_x; clear t_)
    | ((with_reducible refine at_storeX 4 32 ?_); refine L_store_all 32 _ _ (w4.heap.size) ([.bool true, ba]) _ 32 rfl rfl b_x (szR) (rfl) (one_rc _ _ ra.sl) ?_; have b0_x := b_x; clear b_x; intro w6 t_ b_x; replace ra := ra.turn t_ b0_x (by decide); replace r_n7 := r_n7.turn t_ b0_x (by decide); replace b_m := t_.blk b_m (by omega); replace b_e := t_.blk b_e (by omega); replace hB := t_.below hB l_x; clear t_ b0_x)
    | ((with_reducible refine at_loadD 10 4 ?_); refine L_give (by rfl) (g_cell4 _ (w.heap.size) 0 ([.bool true, ba]) 32 (.bool true) rfl b_m (rfl) ?_))
    | ((with_reducible refine at_loadD 11 32 ?_); refine L_load_all 32 _ (w.heap.size) ([.bool true, ba]) 32 _ rfl b_m Try.underlying32 rfl (szR) ?_))
  refine (less_any _ z w6 ⟨_, _, rfl, ra⟩ fz).mono ?_
  rintro e w7 ⟨_, rfl, ⟨s_n12, v_n12, rfl, r_n12⟩, t_⟩
  replace ra := ra.below t_
  replace r_n7 := r_n7.below t_
  replace b_m := b_m.below t_ b_m.lt
  replace b_e := b_e.below t_ b_e.lt
  replace b_x := b_x.below t_ b_x.lt
  replace hB := hB.trans (t_.mono hB.size)
  clear t_
  go_wp2_with (first
    | ((with_reducible refine at_storeX 4 32 ?_); refine L_store_all 32 _ _ (w4.heap.size) ([.bool s_n12, v_n12]) _ 32 rfl rfl b_x (szR) (rfl) (one_rc _ _ r_n12.sl) ?_; have b0_x := b_x; clear b_x; intro w8 t_ b_x; replace ra := ra.turn t_ b0_x (by decide); replace r_n7 := r_n7.turn t_ b0_x (by decide); replace r_n12 := r_n12.turn t_ b0_x (by decide); replace b_m := t_.blk b_m (by omega); replace b_e := t_.blk b_e (by omega); replace hB := t_.below hB l_x; clear t_ b0_x))
  obtain ⟨l, rdx, hcl, hvl⟩ := r_n12.list
  obtain ⟨g_, cap_, sp_, en, -⟩ := id rdx
  have be_ := r_n7.list
  obtain ⟨le, rde, hce, hve⟩ := be_
  obtain ⟨ge_, cape_, spe_, ee, -⟩ := id rde
  subst en
  subst ee
  have hle : 0 < le.length := by
    cases le with
    | nil => simp [val_nil] at hve
    | cons b t => simp
  have cm := b_m.cell 0 _ rfl
  have cx := b_x.cell 1 _ rfl
  have ce := b_e.cell 1 _ rfl
  have hcell := fun k hk => bit_cell (Below.refl _ _) rdx k hk
  generalize hle2 : le.length = ln at *
  clear rde hce hve hle2 r_n12 r_n7 hcl ra
  go_loop [5, 6] (fun lv i => ∃ k : Nat, k ≤ 64 ∧ k ≤ l.length ∧ i = .int .i64 k ∧ lv = .int .u64 (val (l.take k) : Nat)) (fun _ i => 64 - (intOf i).toNat)
  case atStart => exact ⟨0, by omega, by omega, rfl, rfl⟩
  case round =>
    obtain ⟨k, hk, hkl, rfl, rfl⟩ := hrel
    by_cases hlt : k < 64 ∧ k < l.length
    · obtain ⟨hl1, hl2⟩ := hlt
      have hi1 : (k : Int) < 64 := by omega
      have hi2 : (k : Int) < (l.length : Nat) := by omega
      obtain ⟨A, hA⟩ : ∃ A, atB l k = A := ⟨_, rfl⟩
      obtain ⟨s1, s2⟩ := low_step l k hl1 A hA
      have hc := hcell k hl2
      rw [hA] at hc
      generalize val (l.take k) = p1 at *
      clear hcell hA
      replace s2 : Hid _ := s2
      replace s1 : Hid _ := s1
      cases A
      · go_wp2_with fail
        exact ⟨⟨k + 1, by omega, by omega, by go_num, by rw [s1.out]; try simp [bit]⟩, by simp [intOf]; omega⟩
      · go_wp2_with (first
          | ((with_reducible refine at_binD 31 ?_); refine L_give (by rfl) (g_shl1 _ k hl1 rfl ?_))
          | ((with_reducible refine at_binD 32 ?_); refine L_give (by rfl) (g_uadd _ _ _ _ _ rfl rfl s2.out ?_)))
        exact ⟨⟨k + 1, by omega, by omega, by go_num, by rw [s1.out]; try simp [bit]⟩, by simp [intOf]; omega⟩
    · have hend : k = 64 ∨ k = l.length := by omega
      have hval := take_end l k hend hk
      have hq : ¬ ((k : Int) < 64) ∨ ((k : Int) < 64 ∧ ¬ (k : Int) < (l.length : Nat)) := by omega
      have hL2 : IntKind.u64.wrap (-((val (l.take k) : Nat) : Int)) = L := by rw [hval, IntKind.wrap_u64]; omega
      rcases hq with hq | ⟨hq, hq2⟩
      · clear hcell hlt hend hk hkl hval
        go_wp2_with fail
        go_ret
        exact ⟨rfl, hB⟩
      · clear hcell hlt hend hk hkl hval
        go_wp2_with fail
        go_ret
        exact ⟨rfl, hB⟩

theorem rfold_any (u : Value) (z L : Int) (w : World) (hu : RN w u z) (fz : Few z 200) (hL : Hid (z % 18446744073709551616 = L)) :
    Calls Try.prog 23 #[u] w fun e w' => e = .returned (.int .u64 L) ∧ Below w.heap.size w w' := by
  obtain ⟨s, b, rfl, rf⟩ := hu
  have hs := rf.sign
  by_cases h : z < 0
  · rw [decide_eq_true h] at hs
    subst hs
    exact rfold_1 b z L w rf fz hL.out h
  · rw [decide_eq_false h] at hs
    subst hs
    exact rfold_0 b z L w rf fz hL.out h

end Go.Proofs.Ytpeiboehdjhimaa
