/- What the program's wide.Int, wide.Add and wide.Sub answer, at all wide numbers; nothing that was there is changed. -/
import Derived.Test.YtcllmobjdnhmlaaWide3
import Derived.Test.YtcllmobjdnhmlaaEq24
namespace Go.Proofs.Ytcllmobjdnhmlaa
open Go Go.RowKit
set_option linter.unusedVariables false
theorem nl0 (z h : Int) (e : z / 18446744073709551616 = h) : (nl z)[0]? = some (.int .i64 h) := by subst e; rfl
theorem nl1 (z l : Int) (e : z % 18446744073709551616 = l) : (nl z)[1]? = some (.int .u64 l) := by subst e; rfl

set_option maxRecDepth 10000 in
set_option maxHeartbeats 2000000 in
theorem int_ok (z : Int) (w : World) (hz : In64 z) :
    Calls Try.prog 22 #[.agg (nl z).toArray] w fun e w' => e = .returned (.tuple #[.int .i64 z, .int .i64 0]) ∧ Below w.heap.size w w' := by
  unfold In64 at hz
  obtain ⟨h, hh⟩ : ∃ h, z / 18446744073709551616 = h := ⟨_, rfl⟩
  obtain ⟨l, hl⟩ : ∃ l, z % 18446744073709551616 = l := ⟨_, rfl⟩
  obtain ⟨n, hw⟩ : ∃ n, IntKind.i64.wrap l = n := ⟨_, rfl⟩
  have hw' := hw
  rw [IntKind.wrap_i64] at hw'
  have hn : Hid (In64 n) := by show In64 n; unfold In64; omega
  obtain rfl : n = z := by omega
  replace hh : Hid _ := hh
  replace hl : Hid _ := hl
  clear hz hw'
  go_enter Try.func22, Try.ntmps22
  go_wp2_with (first
    | ((with_reducible refine at_boxD 1 47 ?_); refine L_box 47 _ (nl n) rfl ?_; intro w1 t_ b_a; have l_a : w.heap.size ≤ w.heap.size := Nat.le_refl _; have hB : Below w.heap.size w w1 := t_.below (Below.refl _ _) (Nat.le_refl _); clear t_)
    | ((with_reducible refine at_loadD 6 41 ?_); refine L_cell41 _ (w.heap.size) 1 (nl n) 47 (.int .u64 (l)) rfl b_a (nl1 _ _ hl.out) ?_)
    | ((with_reducible refine stop_region 2 ?_); intro X1 hX1))
  refine hX1.out ?_
  clear hX1
  refine wp_region_fixed (by kernel_rfl) (by kernel_rfl) [.int .i64 (n), .agg (nl (n)).toArray, .agg (nl n).toArray, .bool false] (by rfl) (fun w9 => Below w1.heap.size w1 w9) (Below.refl _ _).drew ?_ ?_
  · simp only [fullL, Act.put, List.setIfInBounds_toArray, List.set_cons_succ, List.set_cons_zero]
    refine ⟨?_, ?_, ?_, ?_, trivial⟩
    · exact fun w9 hw => gw rfl (g_move _ _ rfl ⟨rfl, hw⟩)
    · exact fun w9 hw => gw rfl (g_call 21 _ _ [.int .i64 (n)] (kf21 _ _) rfl (mono_val hw (of_any n w9 hn.out)))
    · exact fun w9 hw => gw rfl (g_load_all 47 _ (w.heap.size) _ 47 _ rfl (b_a.below hw b_a.lt) Try.underlying47 rfl (szN 0) ⟨rfl, hw⟩)
    · exact fun w9 hw => gw rfl (g_neqN _ _ (n) n true rfl rfl (decide_eq_true rfl) ⟨rfl, hw⟩)
  simp only [fullL, Act.put, List.setIfInBounds_toArray, List.set_cons_succ, List.set_cons_zero]
  intro w2 hw
  replace b_a := b_a.below hw b_a.lt
  replace hB := hB.trans (hw.mono hB.size)
  clear hw
  go_wp2_with fail
  go_ret2
  exact ⟨rfl, hB⟩

set_option maxRecDepth 10000 in
set_option maxHeartbeats 2000000 in
theorem int_over (z : Int) (w : World) (hz : ¬ In64 z) :
    Calls Try.prog 22 #[.agg (nl z).toArray] w fun e w' => e = .returned (.tuple #[.int .i64 0, .int .i64 6]) ∧ Below w.heap.size w w' := by
  obtain ⟨h, hh⟩ : ∃ h, z / 18446744073709551616 = h := ⟨_, rfl⟩
  obtain ⟨l, hl⟩ : ∃ l, z % 18446744073709551616 = l := ⟨_, rfl⟩
  obtain ⟨n, hw⟩ : ∃ n, IntKind.i64.wrap l = n := ⟨_, rfl⟩
  have hw' := hw
  rw [IntKind.wrap_i64] at hw'
  have hn : Hid (In64 n) := by show In64 n; unfold In64; omega
  have hd : Hid (decide (n = z) = false) := decide_eq_false (fun h => hz (h ▸ hn.out))
  replace hh : Hid _ := hh
  replace hl : Hid _ := hl
  clear hz hw'
  go_enter Try.func22, Try.ntmps22
  go_wp2_with (first
    | ((with_reducible refine at_boxD 1 47 ?_); refine L_box 47 _ (nl (z)) rfl ?_; intro w1 t_ b_a; have l_a : w.heap.size ≤ w.heap.size := Nat.le_refl _; have hB : Below w.heap.size w w1 := t_.below (Below.refl _ _) (Nat.le_refl _); clear t_)
    | ((with_reducible refine at_loadD 6 41 ?_); refine L_cell41 _ (w.heap.size) 1 (nl (z)) 47 (.int .u64 (l)) rfl b_a (nl1 _ _ hl.out) ?_)
    | ((with_reducible refine stop_region 2 ?_); intro X1 hX1))
  refine hX1.out ?_
  clear hX1
  refine wp_region_fixed (by kernel_rfl) (by kernel_rfl) [.int .i64 (n), .agg (nl (n)).toArray, .agg (nl (z)).toArray, .bool true] (by rfl) (fun w9 => Below w1.heap.size w1 w9) (Below.refl _ _).drew ?_ ?_
  · simp only [fullL, Act.put, List.setIfInBounds_toArray, List.set_cons_succ, List.set_cons_zero]
    refine ⟨?_, ?_, ?_, ?_, trivial⟩
    · exact fun w9 hw => gw rfl (g_move _ _ rfl ⟨rfl, hw⟩)
    · exact fun w9 hw => gw rfl (g_call 21 _ _ [.int .i64 (n)] (kf21 _ _) rfl (mono_val hw (of_any n w9 hn.out)))
    · exact fun w9 hw => gw rfl (g_load_all 47 _ (w.heap.size) _ 47 _ rfl (b_a.below hw b_a.lt) Try.underlying47 rfl (szN 0) ⟨rfl, hw⟩)
    · exact fun w9 hw => gw rfl (g_neqN _ _ (n) (z) false rfl rfl (hd.out) ⟨rfl, hw⟩)
  simp only [fullL, Act.put, List.setIfInBounds_toArray, List.set_cons_succ, List.set_cons_zero]
  intro w2 hw
  replace b_a := b_a.below hw b_a.lt
  replace hB := hB.trans (hw.mono hB.size)
  clear hw
  go_wp2_with fail
  go_ret2
  exact ⟨rfl, hB⟩

set_option maxRecDepth 10000 in
set_option maxHeartbeats 2000000 in
theorem add_ok_11 (a b : Int) (w : World) (ha : In128 a) (hb : In128 b) (na : a < 0) (nb : b < 0) (ho : In128 (a + b)) :
    Calls Try.prog 31 #[.agg (nl a).toArray, .agg (nl b).toArray] w fun e w' => e = .returned (.tuple #[.agg (nl (a + b)).toArray, .int .i64 0]) ∧ Below w.heap.size w w' := by
  unfold In128 at ha hb ho
  obtain ⟨ah, hah⟩ : ∃ h, a / 18446744073709551616 = h := ⟨_, rfl⟩
  obtain ⟨al, hal⟩ : ∃ l, a % 18446744073709551616 = l := ⟨_, rfl⟩
  obtain ⟨bh, hbh⟩ : ∃ h, b / 18446744073709551616 = h := ⟨_, rfl⟩
  obtain ⟨bl, hbl⟩ : ∃ l, b % 18446744073709551616 = l := ⟨_, rfl⟩
  obtain ⟨sl, hsl⟩ : ∃ s, (al + bl) % 18446744073709551616 = s := ⟨_, rfl⟩
  obtain ⟨sc, hsc⟩ : ∃ s : Int, ((al + bl) / 18446744073709551616) = s := ⟨_, rfl⟩
  have fx := fun v => f31_any al bl (by omega) (by omega) v
  rw [hsl, hsc] at fx
  have hsc1 : sc = 0 ∨ sc = 1 := by omega
  have hv : al + bl = sc * 18446744073709551616 + sl := by omega
  obtain ⟨s1, hs1⟩ : ∃ s, IntKind.i64.wrap (ah + bh) = s := ⟨_, rfl⟩
  have f1 : IntKind.i64.wrap sc = sc := by rw [IntKind.wrap_i64]; omega
  obtain ⟨s2, hs2⟩ : ∃ s, IntKind.i64.wrap (s1 + sc) = s := ⟨_, rfl⟩
  have hs1' := hs1; have hs2' := hs2
  rw [IntKind.wrap_i64] at hs1' hs2'
  have hns : s2 < 0 := by omega
  have hN : Hid (Value.agg (nl (a + b)).toArray = .agg #[.int .i64 s2, .int .u64 sl]) := nl_mk _ _ _ (by omega) (by omega) (by omega)
  replace hah : Hid _ := hah
  replace hal : Hid _ := hal
  replace hbh : Hid _ := hbh
  replace hbl : Hid _ := hbl
  clear ho hs1' hs2' hsl hsc hv hsc1 ha hb
  go_enter Try.func31, Try.ntmps31
  go_wp2_with (first
    | ((with_reducible refine at_boxD 2 47 ?_); refine L_box 47 _ (nl (a)) rfl ?_; intro w1 t_ b_a; have l_a : w.heap.size ≤ w.heap.size := Nat.le_refl _; have hB : Below w.heap.size w w1 := t_.below (Below.refl _ _) (Nat.le_refl _); clear t_)
    | ((with_reducible refine at_boxD 3 47 ?_); refine L_box 47 _ (nl (b)) rfl ?_; intro w2 t_ b_b; have l_b : w.heap.size ≤ w1.heap.size := hB.size; have o_b := b_a.lt; replace b_a := t_.blk b_a (by omega); replace hB := t_.below hB l_b; clear t_)
    | ((with_reducible refine at_allocD 4 47 ?_); refine L_alloc 47 (nl (0)) zeroN ?_; intro w3 t_ b_r; have l_r : w.heap.size ≤ w2.heap.size := hB.size; have o_r := b_b.lt; replace b_a := t_.blk b_a (by omega); replace b_b := t_.blk b_b (by omega); replace hB := t_.below hB l_r; clear t_)
    | ((with_reducible refine at_loadD 11 41 ?_); refine L_cell41 _ (w.heap.size) 1 (nl (a)) 47 (.int .u64 (al)) rfl b_a (nl1 _ _ hal.out) ?_)
    | ((with_reducible refine at_loadD 13 41 ?_); refine L_cell41 _ (w1.heap.size) 1 (nl (b)) 47 (.int .u64 (bl)) rfl b_b (nl1 _ _ hbl.out) ?_)
    | ((with_reducible refine at_loadD 18 2 ?_); refine L_cell2 _ (w.heap.size) 0 (nl (a)) 47 (.int .i64 (ah)) rfl b_a (nl0 _ _ hah.out) ?_)
    | ((with_reducible refine at_loadD 20 2 ?_); refine L_cell2 _ (w1.heap.size) 0 (nl (b)) 47 (.int .i64 (bh)) rfl b_b (nl0 _ _ hbh.out) ?_)
    | ((with_reducible refine stop_region 3 ?_); intro X1 hX1))
  refine hX1.out ?_
  clear hX1
  refine wp_region_fixed (by kernel_rfl) (by kernel_rfl) [.agg (nl (a)).toArray, .bool true, .agg (nl (b)).toArray, .bool true, .bool true, .bool true, .int .i64 (s2), .bool true, .agg (nl (a)).toArray, .bool true, .bool false, .bool false] (by rfl) (fun w9 => Below w3.heap.size w3 w9) (Below.refl _ _).drew ?_ ?_
  · simp only [fullL, Act.put, List.setIfInBounds_toArray, List.set_cons_succ, List.set_cons_zero]
    refine ⟨?_, ?_, ?_, ?_, ?_, ?_, ?_, ?_, ?_, ?_, ?_, ?_, trivial⟩
    · exact fun w9 hw => gw rfl (g_load_all 47 _ (w.heap.size) _ 47 _ rfl (b_a.below hw b_a.lt) Try.underlying47 rfl (szN 0) ⟨rfl, hw⟩)
    · exact fun w9 hw => gw rfl (g_call 46 _ _ [.agg (nl (a)).toArray] (kf46 _ _) rfl (mono_val hw (below_neg a (by omega) w9)))
    · exact fun w9 hw => gw rfl (g_load_all 47 _ (w1.heap.size) _ 47 _ rfl (b_b.below hw b_b.lt) Try.underlying47 rfl (szN 0) ⟨rfl, hw⟩)
    · exact fun w9 hw => gw rfl (g_call 46 _ _ [.agg (nl (b)).toArray] (kf46 _ _) rfl (mono_val hw (below_neg b (by omega) w9)))
    · exact fun w9 hw => gw rfl (g_beql _ _ _ _ rfl rfl ⟨rfl, hw⟩)
    · exact fun w9 hw => gw rfl (g_move _ _ rfl ⟨rfl, hw⟩)
    · exact fun w9 hw => gw rfl (g_move _ _ rfl ⟨rfl, hw⟩)
    · exact fun w9 hw => gw rfl (g_ilss 2 _ _ .i64 _ _ true rfl rfl (decide_eq_true (by omega)) ⟨rfl, hw⟩)
    · exact fun w9 hw => gw rfl (g_load_all 47 _ (w.heap.size) _ 47 _ rfl (b_a.below hw b_a.lt) Try.underlying47 rfl (szN 0) ⟨rfl, hw⟩)
    · exact fun w9 hw => gw rfl (g_call 46 _ _ [.agg (nl (a)).toArray] (kf46 _ _) rfl (mono_val hw (below_neg a (by omega) w9)))
    · exact fun w9 hw => gw rfl (g_bneq _ _ _ _ rfl rfl ⟨rfl, hw⟩)
    · exact fun w9 hw => gw rfl (g_pickt _ _ _ _ rfl rfl ⟨rfl, hw⟩)
  simp only [fullL, Act.put, List.setIfInBounds_toArray, List.set_cons_succ, List.set_cons_zero]
  intro w4 hw
  replace b_a := b_a.below hw b_a.lt
  replace b_b := b_b.below hw b_b.lt
  replace b_r := b_r.below hw b_r.lt
  replace hB := hB.trans (hw.mono hB.size)
  clear hw
  go_wp2_with (first
    | ((with_reducible refine at_storeX 4 47 ?_); refine L_store_all 47 _ _ (w2.heap.size) ([.int .i64 (s2), .int .u64 (sl)]) _ 47 rfl rfl b_r (szN 0) (rfl) (one_pair _ _) ?_; clear b_r; intro w5 t_ b_r; replace b_a := t_.blk b_a (by omega); replace b_b := t_.blk b_b (by omega); replace hB := t_.below hB l_r; clear t_))
  (try simp only [Exit.inBlock, Exit.then])
  exact bodyPost_ret (results_blk_tmp rfl _ ([.int .i64 s2, .int .u64 sl]) (.int .i64 0) _ rfl rfl b_r Try.underlying47 rfl (szN 0)) rfl ⟨by rw [hN.out], hB⟩

set_option maxRecDepth 10000 in
set_option maxHeartbeats 2000000 in
theorem add_ok_10 (a b : Int) (w : World) (ha : In128 a) (hb : In128 b) (na : a < 0) (nb : ¬ b < 0) (ho : In128 (a + b)) :
    Calls Try.prog 31 #[.agg (nl a).toArray, .agg (nl b).toArray] w fun e w' => e = .returned (.tuple #[.agg (nl (a + b)).toArray, .int .i64 0]) ∧ Below w.heap.size w w' := by
  unfold In128 at ha hb ho
  obtain ⟨ah, hah⟩ : ∃ h, a / 18446744073709551616 = h := ⟨_, rfl⟩
  obtain ⟨al, hal⟩ : ∃ l, a % 18446744073709551616 = l := ⟨_, rfl⟩
  obtain ⟨bh, hbh⟩ : ∃ h, b / 18446744073709551616 = h := ⟨_, rfl⟩
  obtain ⟨bl, hbl⟩ : ∃ l, b % 18446744073709551616 = l := ⟨_, rfl⟩
  obtain ⟨sl, hsl⟩ : ∃ s, (al + bl) % 18446744073709551616 = s := ⟨_, rfl⟩
  obtain ⟨sc, hsc⟩ : ∃ s : Int, ((al + bl) / 18446744073709551616) = s := ⟨_, rfl⟩
  have fx := fun v => f31_any al bl (by omega) (by omega) v
  rw [hsl, hsc] at fx
  have hsc1 : sc = 0 ∨ sc = 1 := by omega
  have hv : al + bl = sc * 18446744073709551616 + sl := by omega
  obtain ⟨s1, hs1⟩ : ∃ s, IntKind.i64.wrap (ah + bh) = s := ⟨_, rfl⟩
  have f1 : IntKind.i64.wrap sc = sc := by rw [IntKind.wrap_i64]; omega
  obtain ⟨s2, hs2⟩ : ∃ s, IntKind.i64.wrap (s1 + sc) = s := ⟨_, rfl⟩
  have hs1' := hs1; have hs2' := hs2
  rw [IntKind.wrap_i64] at hs1' hs2'
  have hN : Hid (Value.agg (nl (a + b)).toArray = .agg #[.int .i64 s2, .int .u64 sl]) := nl_mk _ _ _ (by omega) (by omega) (by omega)
  replace hah : Hid _ := hah
  replace hal : Hid _ := hal
  replace hbh : Hid _ := hbh
  replace hbl : Hid _ := hbl
  clear ho hs1' hs2' hsl hsc hv hsc1 ha hb
  go_enter Try.func31, Try.ntmps31
  go_wp2_with (first
    | ((with_reducible refine at_boxD 2 47 ?_); refine L_box 47 _ (nl (a)) rfl ?_; intro w1 t_ b_a; have l_a : w.heap.size ≤ w.heap.size := Nat.le_refl _; have hB : Below w.heap.size w w1 := t_.below (Below.refl _ _) (Nat.le_refl _); clear t_)
    | ((with_reducible refine at_boxD 3 47 ?_); refine L_box 47 _ (nl (b)) rfl ?_; intro w2 t_ b_b; have l_b : w.heap.size ≤ w1.heap.size := hB.size; have o_b := b_a.lt; replace b_a := t_.blk b_a (by omega); replace hB := t_.below hB l_b; clear t_)
    | ((with_reducible refine at_allocD 4 47 ?_); refine L_alloc 47 (nl (0)) zeroN ?_; intro w3 t_ b_r; have l_r : w.heap.size ≤ w2.heap.size := hB.size; have o_r := b_b.lt; replace b_a := t_.blk b_a (by omega); replace b_b := t_.blk b_b (by omega); replace hB := t_.below hB l_r; clear t_)
    | ((with_reducible refine at_loadD 11 41 ?_); refine L_cell41 _ (w.heap.size) 1 (nl (a)) 47 (.int .u64 (al)) rfl b_a (nl1 _ _ hal.out) ?_)
    | ((with_reducible refine at_loadD 13 41 ?_); refine L_cell41 _ (w1.heap.size) 1 (nl (b)) 47 (.int .u64 (bl)) rfl b_b (nl1 _ _ hbl.out) ?_)
    | ((with_reducible refine at_loadD 18 2 ?_); refine L_cell2 _ (w.heap.size) 0 (nl (a)) 47 (.int .i64 (ah)) rfl b_a (nl0 _ _ hah.out) ?_)
    | ((with_reducible refine at_loadD 20 2 ?_); refine L_cell2 _ (w1.heap.size) 0 (nl (b)) 47 (.int .i64 (bh)) rfl b_b (nl0 _ _ hbh.out) ?_)
    | ((with_reducible refine stop_region 3 ?_); intro X1 hX1))
  refine hX1.out ?_
  clear hX1
  refine wp_region_fixed (by kernel_rfl) (by kernel_rfl) [.agg (nl (a)).toArray, .bool true, .agg (nl (b)).toArray, .bool false, .bool false, .bool false, undef, undef, undef, undef, undef, .bool false] (by rfl) (fun w9 => Below w3.heap.size w3 w9) (Below.refl _ _).drew ?_ ?_
  · simp only [fullL, Act.put, List.setIfInBounds_toArray, List.set_cons_succ, List.set_cons_zero]
    refine ⟨?_, ?_, ?_, ?_, ?_, ?_, ?_, ?_, ?_, ?_, ?_, ?_, trivial⟩
    · exact fun w9 hw => gw rfl (g_load_all 47 _ (w.heap.size) _ 47 _ rfl (b_a.below hw b_a.lt) Try.underlying47 rfl (szN 0) ⟨rfl, hw⟩)
    · exact fun w9 hw => gw rfl (g_call 46 _ _ [.agg (nl (a)).toArray] (kf46 _ _) rfl (mono_val hw (below_neg a (by omega) w9)))
    · exact fun w9 hw => gw rfl (g_load_all 47 _ (w1.heap.size) _ 47 _ rfl (b_b.below hw b_b.lt) Try.underlying47 rfl (szN 0) ⟨rfl, hw⟩)
    · exact fun w9 hw => gw rfl (g_call 46 _ _ [.agg (nl (b)).toArray] (kf46 _ _) rfl (mono_val hw (below_pos b (by omega) w9)))
    · exact fun w9 hw => gw rfl (g_beql _ _ _ _ rfl rfl ⟨rfl, hw⟩)
    · exact fun w9 hw => gw rfl (g_move _ _ rfl ⟨rfl, hw⟩)
    · exact fun w9 hw => gn rfl ⟨rfl, hw⟩
    · exact fun w9 hw => gn rfl ⟨rfl, hw⟩
    · exact fun w9 hw => gn rfl ⟨rfl, hw⟩
    · exact fun w9 hw => gn rfl ⟨rfl, hw⟩
    · exact fun w9 hw => gn rfl ⟨rfl, hw⟩
    · exact fun w9 hw => gw rfl (g_pickf _ _ _ _ rfl rfl ⟨rfl, hw⟩)
  simp only [fullL, Act.put, List.setIfInBounds_toArray, List.set_cons_succ, List.set_cons_zero]
  intro w4 hw
  replace b_a := b_a.below hw b_a.lt
  replace b_b := b_b.below hw b_b.lt
  replace b_r := b_r.below hw b_r.lt
  replace hB := hB.trans (hw.mono hB.size)
  clear hw
  go_wp2_with (first
    | ((with_reducible refine at_storeX 4 47 ?_); refine L_store_all 47 _ _ (w2.heap.size) ([.int .i64 (s2), .int .u64 (sl)]) _ 47 rfl rfl b_r (szN 0) (rfl) (one_pair _ _) ?_; clear b_r; intro w5 t_ b_r; replace b_a := t_.blk b_a (by omega); replace b_b := t_.blk b_b (by omega); replace hB := t_.below hB l_r; clear t_))
  (try simp only [Exit.inBlock, Exit.then])
  exact bodyPost_ret (results_blk_tmp rfl _ ([.int .i64 s2, .int .u64 sl]) (.int .i64 0) _ rfl rfl b_r Try.underlying47 rfl (szN 0)) rfl ⟨by rw [hN.out], hB⟩

set_option maxRecDepth 10000 in
set_option maxHeartbeats 2000000 in
theorem add_ok_01 (a b : Int) (w : World) (ha : In128 a) (hb : In128 b) (na : ¬ a < 0) (nb : b < 0) (ho : In128 (a + b)) :
    Calls Try.prog 31 #[.agg (nl a).toArray, .agg (nl b).toArray] w fun e w' => e = .returned (.tuple #[.agg (nl (a + b)).toArray, .int .i64 0]) ∧ Below w.heap.size w w' := by
  unfold In128 at ha hb ho
  obtain ⟨ah, hah⟩ : ∃ h, a / 18446744073709551616 = h := ⟨_, rfl⟩
  obtain ⟨al, hal⟩ : ∃ l, a % 18446744073709551616 = l := ⟨_, rfl⟩
  obtain ⟨bh, hbh⟩ : ∃ h, b / 18446744073709551616 = h := ⟨_, rfl⟩
  obtain ⟨bl, hbl⟩ : ∃ l, b % 18446744073709551616 = l := ⟨_, rfl⟩
  obtain ⟨sl, hsl⟩ : ∃ s, (al + bl) % 18446744073709551616 = s := ⟨_, rfl⟩
  obtain ⟨sc, hsc⟩ : ∃ s : Int, ((al + bl) / 18446744073709551616) = s := ⟨_, rfl⟩
  have fx := fun v => f31_any al bl (by omega) (by omega) v
  rw [hsl, hsc] at fx
  have hsc1 : sc = 0 ∨ sc = 1 := by omega
  have hv : al + bl = sc * 18446744073709551616 + sl := by omega
  obtain ⟨s1, hs1⟩ : ∃ s, IntKind.i64.wrap (ah + bh) = s := ⟨_, rfl⟩
  have f1 : IntKind.i64.wrap sc = sc := by rw [IntKind.wrap_i64]; omega
  obtain ⟨s2, hs2⟩ : ∃ s, IntKind.i64.wrap (s1 + sc) = s := ⟨_, rfl⟩
  have hs1' := hs1; have hs2' := hs2
  rw [IntKind.wrap_i64] at hs1' hs2'
  have hN : Hid (Value.agg (nl (a + b)).toArray = .agg #[.int .i64 s2, .int .u64 sl]) := nl_mk _ _ _ (by omega) (by omega) (by omega)
  replace hah : Hid _ := hah
  replace hal : Hid _ := hal
  replace hbh : Hid _ := hbh
  replace hbl : Hid _ := hbl
  clear ho hs1' hs2' hsl hsc hv hsc1 ha hb
  go_enter Try.func31, Try.ntmps31
  go_wp2_with (first
    | ((with_reducible refine at_boxD 2 47 ?_); refine L_box 47 _ (nl (a)) rfl ?_; intro w1 t_ b_a; have l_a : w.heap.size ≤ w.heap.size := Nat.le_refl _; have hB : Below w.heap.size w w1 := t_.below (Below.refl _ _) (Nat.le_refl _); clear t_)
    | ((with_reducible refine at_boxD 3 47 ?_); refine L_box 47 _ (nl (b)) rfl ?_; intro w2 t_ b_b; have l_b : w.heap.size ≤ w1.heap.size := hB.size; have o_b := b_a.lt; replace b_a := t_.blk b_a (by omega); replace hB := t_.below hB l_b; clear t_)
    | ((with_reducible refine at_allocD 4 47 ?_); refine L_alloc 47 (nl (0)) zeroN ?_; intro w3 t_ b_r; have l_r : w.heap.size ≤ w2.heap.size := hB.size; have o_r := b_b.lt; replace b_a := t_.blk b_a (by omega); replace b_b := t_.blk b_b (by omega); replace hB := t_.below hB l_r; clear t_)
    | ((with_reducible refine at_loadD 11 41 ?_); refine L_cell41 _ (w.heap.size) 1 (nl (a)) 47 (.int .u64 (al)) rfl b_a (nl1 _ _ hal.out) ?_)
    | ((with_reducible refine at_loadD 13 41 ?_); refine L_cell41 _ (w1.heap.size) 1 (nl (b)) 47 (.int .u64 (bl)) rfl b_b (nl1 _ _ hbl.out) ?_)
    | ((with_reducible refine at_loadD 18 2 ?_); refine L_cell2 _ (w.heap.size) 0 (nl (a)) 47 (.int .i64 (ah)) rfl b_a (nl0 _ _ hah.out) ?_)
    | ((with_reducible refine at_loadD 20 2 ?_); refine L_cell2 _ (w1.heap.size) 0 (nl (b)) 47 (.int .i64 (bh)) rfl b_b (nl0 _ _ hbh.out) ?_)
    | ((with_reducible refine stop_region 3 ?_); intro X1 hX1))
  refine hX1.out ?_
  clear hX1
  refine wp_region_fixed (by kernel_rfl) (by kernel_rfl) [.agg (nl (a)).toArray, .bool false, .agg (nl (b)).toArray, .bool true, .bool false, .bool false, undef, undef, undef, undef, undef, .bool false] (by rfl) (fun w9 => Below w3.heap.size w3 w9) (Below.refl _ _).drew ?_ ?_
  · simp only [fullL, Act.put, List.setIfInBounds_toArray, List.set_cons_succ, List.set_cons_zero]
    refine ⟨?_, ?_, ?_, ?_, ?_, ?_, ?_, ?_, ?_, ?_, ?_, ?_, trivial⟩
    · exact fun w9 hw => gw rfl (g_load_all 47 _ (w.heap.size) _ 47 _ rfl (b_a.below hw b_a.lt) Try.underlying47 rfl (szN 0) ⟨rfl, hw⟩)
    · exact fun w9 hw => gw rfl (g_call 46 _ _ [.agg (nl (a)).toArray] (kf46 _ _) rfl (mono_val hw (below_pos a (by omega) w9)))
    · exact fun w9 hw => gw rfl (g_load_all 47 _ (w1.heap.size) _ 47 _ rfl (b_b.below hw b_b.lt) Try.underlying47 rfl (szN 0) ⟨rfl, hw⟩)
    · exact fun w9 hw => gw rfl (g_call 46 _ _ [.agg (nl (b)).toArray] (kf46 _ _) rfl (mono_val hw (below_neg b (by omega) w9)))
    · exact fun w9 hw => gw rfl (g_beql _ _ _ _ rfl rfl ⟨rfl, hw⟩)
    · exact fun w9 hw => gw rfl (g_move _ _ rfl ⟨rfl, hw⟩)
    · exact fun w9 hw => gn rfl ⟨rfl, hw⟩
    · exact fun w9 hw => gn rfl ⟨rfl, hw⟩
    · exact fun w9 hw => gn rfl ⟨rfl, hw⟩
    · exact fun w9 hw => gn rfl ⟨rfl, hw⟩
    · exact fun w9 hw => gn rfl ⟨rfl, hw⟩
    · exact fun w9 hw => gw rfl (g_pickf _ _ _ _ rfl rfl ⟨rfl, hw⟩)
  simp only [fullL, Act.put, List.setIfInBounds_toArray, List.set_cons_succ, List.set_cons_zero]
  intro w4 hw
  replace b_a := b_a.below hw b_a.lt
  replace b_b := b_b.below hw b_b.lt
  replace b_r := b_r.below hw b_r.lt
  replace hB := hB.trans (hw.mono hB.size)
  clear hw
  go_wp2_with (first
    | ((with_reducible refine at_storeX 4 47 ?_); refine L_store_all 47 _ _ (w2.heap.size) ([.int .i64 (s2), .int .u64 (sl)]) _ 47 rfl rfl b_r (szN 0) (rfl) (one_pair _ _) ?_; clear b_r; intro w5 t_ b_r; replace b_a := t_.blk b_a (by omega); replace b_b := t_.blk b_b (by omega); replace hB := t_.below hB l_r; clear t_))
  (try simp only [Exit.inBlock, Exit.then])
  exact bodyPost_ret (results_blk_tmp rfl _ ([.int .i64 s2, .int .u64 sl]) (.int .i64 0) _ rfl rfl b_r Try.underlying47 rfl (szN 0)) rfl ⟨by rw [hN.out], hB⟩

set_option maxRecDepth 10000 in
set_option maxHeartbeats 2000000 in
theorem add_ok_00 (a b : Int) (w : World) (ha : In128 a) (hb : In128 b) (na : ¬ a < 0) (nb : ¬ b < 0) (ho : In128 (a + b)) :
    Calls Try.prog 31 #[.agg (nl a).toArray, .agg (nl b).toArray] w fun e w' => e = .returned (.tuple #[.agg (nl (a + b)).toArray, .int .i64 0]) ∧ Below w.heap.size w w' := by
  unfold In128 at ha hb ho
  obtain ⟨ah, hah⟩ : ∃ h, a / 18446744073709551616 = h := ⟨_, rfl⟩
  obtain ⟨al, hal⟩ : ∃ l, a % 18446744073709551616 = l := ⟨_, rfl⟩
  obtain ⟨bh, hbh⟩ : ∃ h, b / 18446744073709551616 = h := ⟨_, rfl⟩
  obtain ⟨bl, hbl⟩ : ∃ l, b % 18446744073709551616 = l := ⟨_, rfl⟩
  obtain ⟨sl, hsl⟩ : ∃ s, (al + bl) % 18446744073709551616 = s := ⟨_, rfl⟩
  obtain ⟨sc, hsc⟩ : ∃ s : Int, ((al + bl) / 18446744073709551616) = s := ⟨_, rfl⟩
  have fx := fun v => f31_any al bl (by omega) (by omega) v
  rw [hsl, hsc] at fx
  have hsc1 : sc = 0 ∨ sc = 1 := by omega
  have hv : al + bl = sc * 18446744073709551616 + sl := by omega
  obtain ⟨s1, hs1⟩ : ∃ s, IntKind.i64.wrap (ah + bh) = s := ⟨_, rfl⟩
  have f1 : IntKind.i64.wrap sc = sc := by rw [IntKind.wrap_i64]; omega
  obtain ⟨s2, hs2⟩ : ∃ s, IntKind.i64.wrap (s1 + sc) = s := ⟨_, rfl⟩
  have hs1' := hs1; have hs2' := hs2
  rw [IntKind.wrap_i64] at hs1' hs2'
  have hns : ¬ s2 < 0 := by omega
  have hN : Hid (Value.agg (nl (a + b)).toArray = .agg #[.int .i64 s2, .int .u64 sl]) := nl_mk _ _ _ (by omega) (by omega) (by omega)
  replace hah : Hid _ := hah
  replace hal : Hid _ := hal
  replace hbh : Hid _ := hbh
  replace hbl : Hid _ := hbl
  clear ho hs1' hs2' hsl hsc hv hsc1 ha hb
  go_enter Try.func31, Try.ntmps31
  go_wp2_with (first
    | ((with_reducible refine at_boxD 2 47 ?_); refine L_box 47 _ (nl (a)) rfl ?_; intro w1 t_ b_a; have l_a : w.heap.size ≤ w.heap.size := Nat.le_refl _; have hB : Below w.heap.size w w1 := t_.below (Below.refl _ _) (Nat.le_refl _); clear t_)
    | ((with_reducible refine at_boxD 3 47 ?_); refine L_box 47 _ (nl (b)) rfl ?_; intro w2 t_ b_b; have l_b : w.heap.size ≤ w1.heap.size := hB.size; have o_b := b_a.lt; replace b_a := t_.blk b_a (by omega); replace hB := t_.below hB l_b; clear t_)
    | ((with_reducible refine at_allocD 4 47 ?_); refine L_alloc 47 (nl (0)) zeroN ?_; intro w3 t_ b_r; have l_r : w.heap.size ≤ w2.heap.size := hB.size; have o_r := b_b.lt; replace b_a := t_.blk b_a (by omega); replace b_b := t_.blk b_b (by omega); replace hB := t_.below hB l_r; clear t_)
    | ((with_reducible refine at_loadD 11 41 ?_); refine L_cell41 _ (w.heap.size) 1 (nl (a)) 47 (.int .u64 (al)) rfl b_a (nl1 _ _ hal.out) ?_)
    | ((with_reducible refine at_loadD 13 41 ?_); refine L_cell41 _ (w1.heap.size) 1 (nl (b)) 47 (.int .u64 (bl)) rfl b_b (nl1 _ _ hbl.out) ?_)
    | ((with_reducible refine at_loadD 18 2 ?_); refine L_cell2 _ (w.heap.size) 0 (nl (a)) 47 (.int .i64 (ah)) rfl b_a (nl0 _ _ hah.out) ?_)
    | ((with_reducible refine at_loadD 20 2 ?_); refine L_cell2 _ (w1.heap.size) 0 (nl (b)) 47 (.int .i64 (bh)) rfl b_b (nl0 _ _ hbh.out) ?_)
    | ((with_reducible refine stop_region 3 ?_); intro X1 hX1))
  refine hX1.out ?_
  clear hX1
  refine wp_region_fixed (by kernel_rfl) (by kernel_rfl) [.agg (nl (a)).toArray, .bool false, .agg (nl (b)).toArray, .bool false, .bool true, .bool true, .int .i64 (s2), .bool false, .agg (nl (a)).toArray, .bool false, .bool false, .bool false] (by rfl) (fun w9 => Below w3.heap.size w3 w9) (Below.refl _ _).drew ?_ ?_
  · simp only [fullL, Act.put, List.setIfInBounds_toArray, List.set_cons_succ, List.set_cons_zero]
    refine ⟨?_, ?_, ?_, ?_, ?_, ?_, ?_, ?_, ?_, ?_, ?_, ?_, trivial⟩
    · exact fun w9 hw => gw rfl (g_load_all 47 _ (w.heap.size) _ 47 _ rfl (b_a.below hw b_a.lt) Try.underlying47 rfl (szN 0) ⟨rfl, hw⟩)
    · exact fun w9 hw => gw rfl (g_call 46 _ _ [.agg (nl (a)).toArray] (kf46 _ _) rfl (mono_val hw (below_pos a (by omega) w9)))
    · exact fun w9 hw => gw rfl (g_load_all 47 _ (w1.heap.size) _ 47 _ rfl (b_b.below hw b_b.lt) Try.underlying47 rfl (szN 0) ⟨rfl, hw⟩)
    · exact fun w9 hw => gw rfl (g_call 46 _ _ [.agg (nl (b)).toArray] (kf46 _ _) rfl (mono_val hw (below_pos b (by omega) w9)))
    · exact fun w9 hw => gw rfl (g_beql _ _ _ _ rfl rfl ⟨rfl, hw⟩)
    · exact fun w9 hw => gw rfl (g_move _ _ rfl ⟨rfl, hw⟩)
    · exact fun w9 hw => gw rfl (g_move _ _ rfl ⟨rfl, hw⟩)
    · exact fun w9 hw => gw rfl (g_ilss 2 _ _ .i64 _ _ false rfl rfl (decide_eq_false (by omega)) ⟨rfl, hw⟩)
    · exact fun w9 hw => gw rfl (g_load_all 47 _ (w.heap.size) _ 47 _ rfl (b_a.below hw b_a.lt) Try.underlying47 rfl (szN 0) ⟨rfl, hw⟩)
    · exact fun w9 hw => gw rfl (g_call 46 _ _ [.agg (nl (a)).toArray] (kf46 _ _) rfl (mono_val hw (below_pos a (by omega) w9)))
    · exact fun w9 hw => gw rfl (g_bneq _ _ _ _ rfl rfl ⟨rfl, hw⟩)
    · exact fun w9 hw => gw rfl (g_pickt _ _ _ _ rfl rfl ⟨rfl, hw⟩)
  simp only [fullL, Act.put, List.setIfInBounds_toArray, List.set_cons_succ, List.set_cons_zero]
  intro w4 hw
  replace b_a := b_a.below hw b_a.lt
  replace b_b := b_b.below hw b_b.lt
  replace b_r := b_r.below hw b_r.lt
  replace hB := hB.trans (hw.mono hB.size)
  clear hw
  go_wp2_with (first
    | ((with_reducible refine at_storeX 4 47 ?_); refine L_store_all 47 _ _ (w2.heap.size) ([.int .i64 (s2), .int .u64 (sl)]) _ 47 rfl rfl b_r (szN 0) (rfl) (one_pair _ _) ?_; clear b_r; intro w5 t_ b_r; replace b_a := t_.blk b_a (by omega); replace b_b := t_.blk b_b (by omega); replace hB := t_.below hB l_r; clear t_))
  (try simp only [Exit.inBlock, Exit.then])
  exact bodyPost_ret (results_blk_tmp rfl _ ([.int .i64 s2, .int .u64 sl]) (.int .i64 0) _ rfl rfl b_r Try.underlying47 rfl (szN 0)) rfl ⟨by rw [hN.out], hB⟩

set_option maxRecDepth 10000 in
set_option maxHeartbeats 2000000 in
theorem add_over_11 (a b : Int) (w : World) (ha : In128 a) (hb : In128 b) (na : a < 0) (nb : b < 0) (ho : ¬ In128 (a + b)) :
    Calls Try.prog 31 #[.agg (nl a).toArray, .agg (nl b).toArray] w fun e w' => e = .returned (.tuple #[.agg (nl 0).toArray, .int .i64 6]) ∧ Below w.heap.size w w' := by
  unfold In128 at ha hb ho
  obtain ⟨ah, hah⟩ : ∃ h, a / 18446744073709551616 = h := ⟨_, rfl⟩
  obtain ⟨al, hal⟩ : ∃ l, a % 18446744073709551616 = l := ⟨_, rfl⟩
  obtain ⟨bh, hbh⟩ : ∃ h, b / 18446744073709551616 = h := ⟨_, rfl⟩
  obtain ⟨bl, hbl⟩ : ∃ l, b % 18446744073709551616 = l := ⟨_, rfl⟩
  obtain ⟨sl, hsl⟩ : ∃ s, (al + bl) % 18446744073709551616 = s := ⟨_, rfl⟩
  obtain ⟨sc, hsc⟩ : ∃ s : Int, ((al + bl) / 18446744073709551616) = s := ⟨_, rfl⟩
  have fx := fun v => f31_any al bl (by omega) (by omega) v
  rw [hsl, hsc] at fx
  have hsc1 : sc = 0 ∨ sc = 1 := by omega
  have hv : al + bl = sc * 18446744073709551616 + sl := by omega
  obtain ⟨s1, hs1⟩ : ∃ s, IntKind.i64.wrap (ah + bh) = s := ⟨_, rfl⟩
  have f1 : IntKind.i64.wrap sc = sc := by rw [IntKind.wrap_i64]; omega
  obtain ⟨s2, hs2⟩ : ∃ s, IntKind.i64.wrap (s1 + sc) = s := ⟨_, rfl⟩
  have hs1' := hs1; have hs2' := hs2
  rw [IntKind.wrap_i64] at hs1' hs2'
  have hns : ¬ s2 < 0 := by omega
  replace hah : Hid _ := hah
  replace hal : Hid _ := hal
  replace hbh : Hid _ := hbh
  replace hbl : Hid _ := hbl
  clear ho hs1' hs2' hsl hsc hv hsc1 ha hb
  go_enter Try.func31, Try.ntmps31
  go_wp2_with (first
    | ((with_reducible refine at_boxD 2 47 ?_); refine L_box 47 _ (nl (a)) rfl ?_; intro w1 t_ b_a; have l_a : w.heap.size ≤ w.heap.size := Nat.le_refl _; have hB : Below w.heap.size w w1 := t_.below (Below.refl _ _) (Nat.le_refl _); clear t_)
    | ((with_reducible refine at_boxD 3 47 ?_); refine L_box 47 _ (nl (b)) rfl ?_; intro w2 t_ b_b; have l_b : w.heap.size ≤ w1.heap.size := hB.size; have o_b := b_a.lt; replace b_a := t_.blk b_a (by omega); replace hB := t_.below hB l_b; clear t_)
    | ((with_reducible refine at_allocD 4 47 ?_); refine L_alloc 47 (nl (0)) zeroN ?_; intro w3 t_ b_r; have l_r : w.heap.size ≤ w2.heap.size := hB.size; have o_r := b_b.lt; replace b_a := t_.blk b_a (by omega); replace b_b := t_.blk b_b (by omega); replace hB := t_.below hB l_r; clear t_)
    | ((with_reducible refine at_loadD 11 41 ?_); refine L_cell41 _ (w.heap.size) 1 (nl (a)) 47 (.int .u64 (al)) rfl b_a (nl1 _ _ hal.out) ?_)
    | ((with_reducible refine at_loadD 13 41 ?_); refine L_cell41 _ (w1.heap.size) 1 (nl (b)) 47 (.int .u64 (bl)) rfl b_b (nl1 _ _ hbl.out) ?_)
    | ((with_reducible refine at_loadD 18 2 ?_); refine L_cell2 _ (w.heap.size) 0 (nl (a)) 47 (.int .i64 (ah)) rfl b_a (nl0 _ _ hah.out) ?_)
    | ((with_reducible refine at_loadD 20 2 ?_); refine L_cell2 _ (w1.heap.size) 0 (nl (b)) 47 (.int .i64 (bh)) rfl b_b (nl0 _ _ hbh.out) ?_)
    | ((with_reducible refine stop_region 3 ?_); intro X1 hX1))
  refine hX1.out ?_
  clear hX1
  refine wp_region_fixed (by kernel_rfl) (by kernel_rfl) [.agg (nl (a)).toArray, .bool true, .agg (nl (b)).toArray, .bool true, .bool true, .bool true, .int .i64 (s2), .bool false, .agg (nl (a)).toArray, .bool true, .bool true, .bool true] (by rfl) (fun w9 => Below w3.heap.size w3 w9) (Below.refl _ _).drew ?_ ?_
  · simp only [fullL, Act.put, List.setIfInBounds_toArray, List.set_cons_succ, List.set_cons_zero]
    refine ⟨?_, ?_, ?_, ?_, ?_, ?_, ?_, ?_, ?_, ?_, ?_, ?_, trivial⟩
    · exact fun w9 hw => gw rfl (g_load_all 47 _ (w.heap.size) _ 47 _ rfl (b_a.below hw b_a.lt) Try.underlying47 rfl (szN 0) ⟨rfl, hw⟩)
    · exact fun w9 hw => gw rfl (g_call 46 _ _ [.agg (nl (a)).toArray] (kf46 _ _) rfl (mono_val hw (below_neg a (by omega) w9)))
    · exact fun w9 hw => gw rfl (g_load_all 47 _ (w1.heap.size) _ 47 _ rfl (b_b.below hw b_b.lt) Try.underlying47 rfl (szN 0) ⟨rfl, hw⟩)
    · exact fun w9 hw => gw rfl (g_call 46 _ _ [.agg (nl (b)).toArray] (kf46 _ _) rfl (mono_val hw (below_neg b (by omega) w9)))
    · exact fun w9 hw => gw rfl (g_beql _ _ _ _ rfl rfl ⟨rfl, hw⟩)
    · exact fun w9 hw => gw rfl (g_move _ _ rfl ⟨rfl, hw⟩)
    · exact fun w9 hw => gw rfl (g_move _ _ rfl ⟨rfl, hw⟩)
    · exact fun w9 hw => gw rfl (g_ilss 2 _ _ .i64 _ _ false rfl rfl (decide_eq_false (by omega)) ⟨rfl, hw⟩)
    · exact fun w9 hw => gw rfl (g_load_all 47 _ (w.heap.size) _ 47 _ rfl (b_a.below hw b_a.lt) Try.underlying47 rfl (szN 0) ⟨rfl, hw⟩)
    · exact fun w9 hw => gw rfl (g_call 46 _ _ [.agg (nl (a)).toArray] (kf46 _ _) rfl (mono_val hw (below_neg a (by omega) w9)))
    · exact fun w9 hw => gw rfl (g_bneq _ _ _ _ rfl rfl ⟨rfl, hw⟩)
    · exact fun w9 hw => gw rfl (g_pickt _ _ _ _ rfl rfl ⟨rfl, hw⟩)
  simp only [fullL, Act.put, List.setIfInBounds_toArray, List.set_cons_succ, List.set_cons_zero]
  intro w4 hw
  replace b_a := b_a.below hw b_a.lt
  replace b_b := b_b.below hw b_b.lt
  replace b_r := b_r.below hw b_r.lt
  replace hB := hB.trans (hw.mono hB.size)
  clear hw
  go_wp2_with (first
    | ((with_reducible refine at_storeX 4 47 ?_); refine L_store_all 47 _ _ (w2.heap.size) (nl (0)) _ 47 rfl rfl b_r (szN 0) (rfl) (one_nl _) ?_; clear b_r; intro w5 t_ b_r; replace b_a := t_.blk b_a (by omega); replace b_b := t_.blk b_b (by omega); replace hB := t_.below hB l_r; clear t_))
  (try simp only [Exit.inBlock, Exit.then])
  exact bodyPost_ret (results_blk_tmp rfl _ (nl 0) (.int .i64 6) _ rfl rfl b_r Try.underlying47 rfl (szN 0)) rfl ⟨rfl, hB⟩

set_option maxRecDepth 10000 in
set_option maxHeartbeats 2000000 in
theorem add_over_00 (a b : Int) (w : World) (ha : In128 a) (hb : In128 b) (na : ¬ a < 0) (nb : ¬ b < 0) (ho : ¬ In128 (a + b)) :
    Calls Try.prog 31 #[.agg (nl a).toArray, .agg (nl b).toArray] w fun e w' => e = .returned (.tuple #[.agg (nl 0).toArray, .int .i64 6]) ∧ Below w.heap.size w w' := by
  unfold In128 at ha hb ho
  obtain ⟨ah, hah⟩ : ∃ h, a / 18446744073709551616 = h := ⟨_, rfl⟩
  obtain ⟨al, hal⟩ : ∃ l, a % 18446744073709551616 = l := ⟨_, rfl⟩
  obtain ⟨bh, hbh⟩ : ∃ h, b / 18446744073709551616 = h := ⟨_, rfl⟩
  obtain ⟨bl, hbl⟩ : ∃ l, b % 18446744073709551616 = l := ⟨_, rfl⟩
  obtain ⟨sl, hsl⟩ : ∃ s, (al + bl) % 18446744073709551616 = s := ⟨_, rfl⟩
  obtain ⟨sc, hsc⟩ : ∃ s : Int, ((al + bl) / 18446744073709551616) = s := ⟨_, rfl⟩
  have fx := fun v => f31_any al bl (by omega) (by omega) v
  rw [hsl, hsc] at fx
  have hsc1 : sc = 0 ∨ sc = 1 := by omega
  have hv : al + bl = sc * 18446744073709551616 + sl := by omega
  obtain ⟨s1, hs1⟩ : ∃ s, IntKind.i64.wrap (ah + bh) = s := ⟨_, rfl⟩
  have f1 : IntKind.i64.wrap sc = sc := by rw [IntKind.wrap_i64]; omega
  obtain ⟨s2, hs2⟩ : ∃ s, IntKind.i64.wrap (s1 + sc) = s := ⟨_, rfl⟩
  have hs1' := hs1; have hs2' := hs2
  rw [IntKind.wrap_i64] at hs1' hs2'
  have hns : s2 < 0 := by omega
  replace hah : Hid _ := hah
  replace hal : Hid _ := hal
  replace hbh : Hid _ := hbh
  replace hbl : Hid _ := hbl
  clear ho hs1' hs2' hsl hsc hv hsc1 ha hb
  go_enter Try.func31, Try.ntmps31
  go_wp2_with (first
    | ((with_reducible refine at_boxD 2 47 ?_); refine L_box 47 _ (nl (a)) rfl ?_; intro w1 t_ b_a; have l_a : w.heap.size ≤ w.heap.size := Nat.le_refl _; have hB : Below w.heap.size w w1 := t_.below (Below.refl _ _) (Nat.le_refl _); clear t_)
    | ((with_reducible refine at_boxD 3 47 ?_); refine L_box 47 _ (nl (b)) rfl ?_; intro w2 t_ b_b; have l_b : w.heap.size ≤ w1.heap.size := hB.size; have o_b := b_a.lt; replace b_a := t_.blk b_a (by omega); replace hB := t_.below hB l_b; clear t_)
    | ((with_reducible refine at_allocD 4 47 ?_); refine L_alloc 47 (nl (0)) zeroN ?_; intro w3 t_ b_r; have l_r : w.heap.size ≤ w2.heap.size := hB.size; have o_r := b_b.lt; replace b_a := t_.blk b_a (by omega); replace b_b := t_.blk b_b (by omega); replace hB := t_.below hB l_r; clear t_)
    | ((with_reducible refine at_loadD 11 41 ?_); refine L_cell41 _ (w.heap.size) 1 (nl (a)) 47 (.int .u64 (al)) rfl b_a (nl1 _ _ hal.out) ?_)
    | ((with_reducible refine at_loadD 13 41 ?_); refine L_cell41 _ (w1.heap.size) 1 (nl (b)) 47 (.int .u64 (bl)) rfl b_b (nl1 _ _ hbl.out) ?_)
    | ((with_reducible refine at_loadD 18 2 ?_); refine L_cell2 _ (w.heap.size) 0 (nl (a)) 47 (.int .i64 (ah)) rfl b_a (nl0 _ _ hah.out) ?_)
    | ((with_reducible refine at_loadD 20 2 ?_); refine L_cell2 _ (w1.heap.size) 0 (nl (b)) 47 (.int .i64 (bh)) rfl b_b (nl0 _ _ hbh.out) ?_)
    | ((with_reducible refine stop_region 3 ?_); intro X1 hX1))
  refine hX1.out ?_
  clear hX1
  refine wp_region_fixed (by kernel_rfl) (by kernel_rfl) [.agg (nl (a)).toArray, .bool false, .agg (nl (b)).toArray, .bool false, .bool true, .bool true, .int .i64 (s2), .bool true, .agg (nl (a)).toArray, .bool false, .bool true, .bool true] (by rfl) (fun w9 => Below w3.heap.size w3 w9) (Below.refl _ _).drew ?_ ?_
  · simp only [fullL, Act.put, List.setIfInBounds_toArray, List.set_cons_succ, List.set_cons_zero]
    refine ⟨?_, ?_, ?_, ?_, ?_, ?_, ?_, ?_, ?_, ?_, ?_, ?_, trivial⟩
    · exact fun w9 hw => gw rfl (g_load_all 47 _ (w.heap.size) _ 47 _ rfl (b_a.below hw b_a.lt) Try.underlying47 rfl (szN 0) ⟨rfl, hw⟩)
    · exact fun w9 hw => gw rfl (g_call 46 _ _ [.agg (nl (a)).toArray] (kf46 _ _) rfl (mono_val hw (below_pos a (by omega) w9)))
    · exact fun w9 hw => gw rfl (g_load_all 47 _ (w1.heap.size) _ 47 _ rfl (b_b.below hw b_b.lt) Try.underlying47 rfl (szN 0) ⟨rfl, hw⟩)
    · exact fun w9 hw => gw rfl (g_call 46 _ _ [.agg (nl (b)).toArray] (kf46 _ _) rfl (mono_val hw (below_pos b (by omega) w9)))
    · exact fun w9 hw => gw rfl (g_beql _ _ _ _ rfl rfl ⟨rfl, hw⟩)
    · exact fun w9 hw => gw rfl (g_move _ _ rfl ⟨rfl, hw⟩)
    · exact fun w9 hw => gw rfl (g_move _ _ rfl ⟨rfl, hw⟩)
    · exact fun w9 hw => gw rfl (g_ilss 2 _ _ .i64 _ _ true rfl rfl (decide_eq_true (by omega)) ⟨rfl, hw⟩)
    · exact fun w9 hw => gw rfl (g_load_all 47 _ (w.heap.size) _ 47 _ rfl (b_a.below hw b_a.lt) Try.underlying47 rfl (szN 0) ⟨rfl, hw⟩)
    · exact fun w9 hw => gw rfl (g_call 46 _ _ [.agg (nl (a)).toArray] (kf46 _ _) rfl (mono_val hw (below_pos a (by omega) w9)))
    · exact fun w9 hw => gw rfl (g_bneq _ _ _ _ rfl rfl ⟨rfl, hw⟩)
    · exact fun w9 hw => gw rfl (g_pickt _ _ _ _ rfl rfl ⟨rfl, hw⟩)
  simp only [fullL, Act.put, List.setIfInBounds_toArray, List.set_cons_succ, List.set_cons_zero]
  intro w4 hw
  replace b_a := b_a.below hw b_a.lt
  replace b_b := b_b.below hw b_b.lt
  replace b_r := b_r.below hw b_r.lt
  replace hB := hB.trans (hw.mono hB.size)
  clear hw
  go_wp2_with (first
    | ((with_reducible refine at_storeX 4 47 ?_); refine L_store_all 47 _ _ (w2.heap.size) (nl (0)) _ 47 rfl rfl b_r (szN 0) (rfl) (one_nl _) ?_; clear b_r; intro w5 t_ b_r; replace b_a := t_.blk b_a (by omega); replace b_b := t_.blk b_b (by omega); replace hB := t_.below hB l_r; clear t_))
  (try simp only [Exit.inBlock, Exit.then])
  exact bodyPost_ret (results_blk_tmp rfl _ (nl 0) (.int .i64 6) _ rfl rfl b_r Try.underlying47 rfl (szN 0)) rfl ⟨rfl, hB⟩

theorem add_ok (a b : Int) (w : World) (ha : In128 a) (hb : In128 b) (ho : In128 (a + b)) :
    Calls Try.prog 31 #[.agg (nl a).toArray, .agg (nl b).toArray] w fun e w' => e = .returned (.tuple #[.agg (nl (a + b)).toArray, .int .i64 0]) ∧ Below w.heap.size w w' := by
  by_cases na : a < 0 <;> by_cases nb : b < 0
  · exact add_ok_11 a b w ha hb na nb ho
  · exact add_ok_10 a b w ha hb na nb ho
  · exact add_ok_01 a b w ha hb na nb ho
  · exact add_ok_00 a b w ha hb na nb ho

theorem add_over (a b : Int) (w : World) (ha : In128 a) (hb : In128 b) (ho : ¬ In128 (a + b)) :
    Calls Try.prog 31 #[.agg (nl a).toArray, .agg (nl b).toArray] w fun e w' => e = .returned (.tuple #[.agg (nl 0).toArray, .int .i64 6]) ∧ Below w.heap.size w w' := by
  by_cases na : a < 0 <;> by_cases nb : b < 0
  · exact add_over_11 a b w ha hb na nb ho
  · exact absurd (by unfold In128 at *; omega) ho
  · exact absurd (by unfold In128 at *; omega) ho
  · exact add_over_00 a b w ha hb na nb ho

set_option maxRecDepth 10000 in
set_option maxHeartbeats 2000000 in
theorem sub_ok_11 (a b : Int) (w : World) (ha : In128 a) (hb : In128 b) (na : a < 0) (nb : b < 0) (ho : In128 (a - b)) :
    Calls Try.prog 36 #[.agg (nl a).toArray, .agg (nl b).toArray] w fun e w' => e = .returned (.tuple #[.agg (nl (a - b)).toArray, .int .i64 0]) ∧ Below w.heap.size w w' := by
  unfold In128 at ha hb ho
  obtain ⟨ah, hah⟩ : ∃ h, a / 18446744073709551616 = h := ⟨_, rfl⟩
  obtain ⟨al, hal⟩ : ∃ l, a % 18446744073709551616 = l := ⟨_, rfl⟩
  obtain ⟨bh, hbh⟩ : ∃ h, b / 18446744073709551616 = h := ⟨_, rfl⟩
  obtain ⟨bl, hbl⟩ : ∃ l, b % 18446744073709551616 = l := ⟨_, rfl⟩
  obtain ⟨sl, hsl⟩ : ∃ s, (al - bl) % 18446744073709551616 = s := ⟨_, rfl⟩
  obtain ⟨sc, hsc⟩ : ∃ s : Int, (if al < bl then 1 else 0) = s := ⟨_, rfl⟩
  have fx := fun v => f33_any al bl (by omega) (by omega) (by omega) v
  rw [hsl, hsc] at fx
  have hsc1 : sc = 0 ∨ sc = 1 := by (split at hsc <;> omega)
  have hv : al - bl = sl - sc * 18446744073709551616 := by (split at hsc <;> omega)
  obtain ⟨s1, hs1⟩ : ∃ s, IntKind.i64.wrap (ah - bh) = s := ⟨_, rfl⟩
  have f1 : IntKind.i64.wrap sc = sc := by rw [IntKind.wrap_i64]; omega
  obtain ⟨s2, hs2⟩ : ∃ s, IntKind.i64.wrap (s1 - sc) = s := ⟨_, rfl⟩
  have hs1' := hs1; have hs2' := hs2
  rw [IntKind.wrap_i64] at hs1' hs2'
  have hN : Hid (Value.agg (nl (a - b)).toArray = .agg #[.int .i64 s2, .int .u64 sl]) := nl_mk _ _ _ (by omega) (by omega) (by omega)
  replace hah : Hid _ := hah
  replace hal : Hid _ := hal
  replace hbh : Hid _ := hbh
  replace hbl : Hid _ := hbl
  clear ho hs1' hs2' hsl hsc hv hsc1 ha hb
  go_enter Try.func36, Try.ntmps36
  go_wp2_with (first
    | ((with_reducible refine at_boxD 2 47 ?_); refine L_box 47 _ (nl (a)) rfl ?_; intro w1 t_ b_a; have l_a : w.heap.size ≤ w.heap.size := Nat.le_refl _; have hB : Below w.heap.size w w1 := t_.below (Below.refl _ _) (Nat.le_refl _); clear t_)
    | ((with_reducible refine at_boxD 3 47 ?_); refine L_box 47 _ (nl (b)) rfl ?_; intro w2 t_ b_b; have l_b : w.heap.size ≤ w1.heap.size := hB.size; have o_b := b_a.lt; replace b_a := t_.blk b_a (by omega); replace hB := t_.below hB l_b; clear t_)
    | ((with_reducible refine at_allocD 4 47 ?_); refine L_alloc 47 (nl (0)) zeroN ?_; intro w3 t_ b_r; have l_r : w.heap.size ≤ w2.heap.size := hB.size; have o_r := b_b.lt; replace b_a := t_.blk b_a (by omega); replace b_b := t_.blk b_b (by omega); replace hB := t_.below hB l_r; clear t_)
    | ((with_reducible refine at_loadD 11 41 ?_); refine L_cell41 _ (w.heap.size) 1 (nl (a)) 47 (.int .u64 (al)) rfl b_a (nl1 _ _ hal.out) ?_)
    | ((with_reducible refine at_loadD 13 41 ?_); refine L_cell41 _ (w1.heap.size) 1 (nl (b)) 47 (.int .u64 (bl)) rfl b_b (nl1 _ _ hbl.out) ?_)
    | ((with_reducible refine at_loadD 18 2 ?_); refine L_cell2 _ (w.heap.size) 0 (nl (a)) 47 (.int .i64 (ah)) rfl b_a (nl0 _ _ hah.out) ?_)
    | ((with_reducible refine at_loadD 20 2 ?_); refine L_cell2 _ (w1.heap.size) 0 (nl (b)) 47 (.int .i64 (bh)) rfl b_b (nl0 _ _ hbh.out) ?_)
    | ((with_reducible refine stop_region 3 ?_); intro X1 hX1))
  refine hX1.out ?_
  clear hX1
  refine wp_region_fixed (by kernel_rfl) (by kernel_rfl) [.agg (nl (a)).toArray, .bool true, .agg (nl (b)).toArray, .bool true, .bool false, .bool false, undef, undef, undef, undef, undef, .bool false] (by rfl) (fun w9 => Below w3.heap.size w3 w9) (Below.refl _ _).drew ?_ ?_
  · simp only [fullL, Act.put, List.setIfInBounds_toArray, List.set_cons_succ, List.set_cons_zero]
    refine ⟨?_, ?_, ?_, ?_, ?_, ?_, ?_, ?_, ?_, ?_, ?_, ?_, trivial⟩
    · exact fun w9 hw => gw rfl (g_load_all 47 _ (w.heap.size) _ 47 _ rfl (b_a.below hw b_a.lt) Try.underlying47 rfl (szN 0) ⟨rfl, hw⟩)
    · exact fun w9 hw => gw rfl (g_call 46 _ _ [.agg (nl (a)).toArray] (kf46 _ _) rfl (mono_val hw (below_neg a (by omega) w9)))
    · exact fun w9 hw => gw rfl (g_load_all 47 _ (w1.heap.size) _ 47 _ rfl (b_b.below hw b_b.lt) Try.underlying47 rfl (szN 0) ⟨rfl, hw⟩)
    · exact fun w9 hw => gw rfl (g_call 46 _ _ [.agg (nl (b)).toArray] (kf46 _ _) rfl (mono_val hw (below_neg b (by omega) w9)))
    · exact fun w9 hw => gw rfl (g_bneq _ _ _ _ rfl rfl ⟨rfl, hw⟩)
    · exact fun w9 hw => gw rfl (g_move _ _ rfl ⟨rfl, hw⟩)
    · exact fun w9 hw => gn rfl ⟨rfl, hw⟩
    · exact fun w9 hw => gn rfl ⟨rfl, hw⟩
    · exact fun w9 hw => gn rfl ⟨rfl, hw⟩
    · exact fun w9 hw => gn rfl ⟨rfl, hw⟩
    · exact fun w9 hw => gn rfl ⟨rfl, hw⟩
    · exact fun w9 hw => gw rfl (g_pickf _ _ _ _ rfl rfl ⟨rfl, hw⟩)
  simp only [fullL, Act.put, List.setIfInBounds_toArray, List.set_cons_succ, List.set_cons_zero]
  intro w4 hw
  replace b_a := b_a.below hw b_a.lt
  replace b_b := b_b.below hw b_b.lt
  replace b_r := b_r.below hw b_r.lt
  replace hB := hB.trans (hw.mono hB.size)
  clear hw
  go_wp2_with (first
    | ((with_reducible refine at_storeX 4 47 ?_); refine L_store_all 47 _ _ (w2.heap.size) ([.int .i64 (s2), .int .u64 (sl)]) _ 47 rfl rfl b_r (szN 0) (rfl) (one_pair _ _) ?_; clear b_r; intro w5 t_ b_r; replace b_a := t_.blk b_a (by omega); replace b_b := t_.blk b_b (by omega); replace hB := t_.below hB l_r; clear t_))
  (try simp only [Exit.inBlock, Exit.then])
  exact bodyPost_ret (results_blk_tmp rfl _ ([.int .i64 s2, .int .u64 sl]) (.int .i64 0) _ rfl rfl b_r Try.underlying47 rfl (szN 0)) rfl ⟨by rw [hN.out], hB⟩

set_option maxRecDepth 10000 in
set_option maxHeartbeats 2000000 in
theorem sub_ok_10 (a b : Int) (w : World) (ha : In128 a) (hb : In128 b) (na : a < 0) (nb : ¬ b < 0) (ho : In128 (a - b)) :
    Calls Try.prog 36 #[.agg (nl a).toArray, .agg (nl b).toArray] w fun e w' => e = .returned (.tuple #[.agg (nl (a - b)).toArray, .int .i64 0]) ∧ Below w.heap.size w w' := by
  unfold In128 at ha hb ho
  obtain ⟨ah, hah⟩ : ∃ h, a / 18446744073709551616 = h := ⟨_, rfl⟩
  obtain ⟨al, hal⟩ : ∃ l, a % 18446744073709551616 = l := ⟨_, rfl⟩
  obtain ⟨bh, hbh⟩ : ∃ h, b / 18446744073709551616 = h := ⟨_, rfl⟩
  obtain ⟨bl, hbl⟩ : ∃ l, b % 18446744073709551616 = l := ⟨_, rfl⟩
  obtain ⟨sl, hsl⟩ : ∃ s, (al - bl) % 18446744073709551616 = s := ⟨_, rfl⟩
  obtain ⟨sc, hsc⟩ : ∃ s : Int, (if al < bl then 1 else 0) = s := ⟨_, rfl⟩
  have fx := fun v => f33_any al bl (by omega) (by omega) (by omega) v
  rw [hsl, hsc] at fx
  have hsc1 : sc = 0 ∨ sc = 1 := by (split at hsc <;> omega)
  have hv : al - bl = sl - sc * 18446744073709551616 := by (split at hsc <;> omega)
  obtain ⟨s1, hs1⟩ : ∃ s, IntKind.i64.wrap (ah - bh) = s := ⟨_, rfl⟩
  have f1 : IntKind.i64.wrap sc = sc := by rw [IntKind.wrap_i64]; omega
  obtain ⟨s2, hs2⟩ : ∃ s, IntKind.i64.wrap (s1 - sc) = s := ⟨_, rfl⟩
  have hs1' := hs1; have hs2' := hs2
  rw [IntKind.wrap_i64] at hs1' hs2'
  have hns : s2 < 0 := by omega
  have hN : Hid (Value.agg (nl (a - b)).toArray = .agg #[.int .i64 s2, .int .u64 sl]) := nl_mk _ _ _ (by omega) (by omega) (by omega)
  replace hah : Hid _ := hah
  replace hal : Hid _ := hal
  replace hbh : Hid _ := hbh
  replace hbl : Hid _ := hbl
  clear ho hs1' hs2' hsl hsc hv hsc1 ha hb
  go_enter Try.func36, Try.ntmps36
  go_wp2_with (first
    | ((with_reducible refine at_boxD 2 47 ?_); refine L_box 47 _ (nl (a)) rfl ?_; intro w1 t_ b_a; have l_a : w.heap.size ≤ w.heap.size := Nat.le_refl _; have hB : Below w.heap.size w w1 := t_.below (Below.refl _ _) (Nat.le_refl _); clear t_)
    | ((with_reducible refine at_boxD 3 47 ?_); refine L_box 47 _ (nl (b)) rfl ?_; intro w2 t_ b_b; have l_b : w.heap.size ≤ w1.heap.size := hB.size; have o_b := b_a.lt; replace b_a := t_.blk b_a (by omega); replace hB := t_.below hB l_b; clear t_)
    | ((with_reducible refine at_allocD 4 47 ?_); refine L_alloc 47 (nl (0)) zeroN ?_; intro w3 t_ b_r; have l_r : w.heap.size ≤ w2.heap.size := hB.size; have o_r := b_b.lt; replace b_a := t_.blk b_a (by omega); replace b_b := t_.blk b_b (by omega); replace hB := t_.below hB l_r; clear t_)
    | ((with_reducible refine at_loadD 11 41 ?_); refine L_cell41 _ (w.heap.size) 1 (nl (a)) 47 (.int .u64 (al)) rfl b_a (nl1 _ _ hal.out) ?_)
    | ((with_reducible refine at_loadD 13 41 ?_); refine L_cell41 _ (w1.heap.size) 1 (nl (b)) 47 (.int .u64 (bl)) rfl b_b (nl1 _ _ hbl.out) ?_)
    | ((with_reducible refine at_loadD 18 2 ?_); refine L_cell2 _ (w.heap.size) 0 (nl (a)) 47 (.int .i64 (ah)) rfl b_a (nl0 _ _ hah.out) ?_)
    | ((with_reducible refine at_loadD 20 2 ?_); refine L_cell2 _ (w1.heap.size) 0 (nl (b)) 47 (.int .i64 (bh)) rfl b_b (nl0 _ _ hbh.out) ?_)
    | ((with_reducible refine stop_region 3 ?_); intro X1 hX1))
  refine hX1.out ?_
  clear hX1
  refine wp_region_fixed (by kernel_rfl) (by kernel_rfl) [.agg (nl (a)).toArray, .bool true, .agg (nl (b)).toArray, .bool false, .bool true, .bool true, .int .i64 (s2), .bool true, .agg (nl (a)).toArray, .bool true, .bool false, .bool false] (by rfl) (fun w9 => Below w3.heap.size w3 w9) (Below.refl _ _).drew ?_ ?_
  · simp only [fullL, Act.put, List.setIfInBounds_toArray, List.set_cons_succ, List.set_cons_zero]
    refine ⟨?_, ?_, ?_, ?_, ?_, ?_, ?_, ?_, ?_, ?_, ?_, ?_, trivial⟩
    · exact fun w9 hw => gw rfl (g_load_all 47 _ (w.heap.size) _ 47 _ rfl (b_a.below hw b_a.lt) Try.underlying47 rfl (szN 0) ⟨rfl, hw⟩)
    · exact fun w9 hw => gw rfl (g_call 46 _ _ [.agg (nl (a)).toArray] (kf46 _ _) rfl (mono_val hw (below_neg a (by omega) w9)))
    · exact fun w9 hw => gw rfl (g_load_all 47 _ (w1.heap.size) _ 47 _ rfl (b_b.below hw b_b.lt) Try.underlying47 rfl (szN 0) ⟨rfl, hw⟩)
    · exact fun w9 hw => gw rfl (g_call 46 _ _ [.agg (nl (b)).toArray] (kf46 _ _) rfl (mono_val hw (below_pos b (by omega) w9)))
    · exact fun w9 hw => gw rfl (g_bneq _ _ _ _ rfl rfl ⟨rfl, hw⟩)
    · exact fun w9 hw => gw rfl (g_move _ _ rfl ⟨rfl, hw⟩)
    · exact fun w9 hw => gw rfl (g_move _ _ rfl ⟨rfl, hw⟩)
    · exact fun w9 hw => gw rfl (g_ilss 2 _ _ .i64 _ _ true rfl rfl (decide_eq_true (by omega)) ⟨rfl, hw⟩)
    · exact fun w9 hw => gw rfl (g_load_all 47 _ (w.heap.size) _ 47 _ rfl (b_a.below hw b_a.lt) Try.underlying47 rfl (szN 0) ⟨rfl, hw⟩)
    · exact fun w9 hw => gw rfl (g_call 46 _ _ [.agg (nl (a)).toArray] (kf46 _ _) rfl (mono_val hw (below_neg a (by omega) w9)))
    · exact fun w9 hw => gw rfl (g_bneq _ _ _ _ rfl rfl ⟨rfl, hw⟩)
    · exact fun w9 hw => gw rfl (g_pickt _ _ _ _ rfl rfl ⟨rfl, hw⟩)
  simp only [fullL, Act.put, List.setIfInBounds_toArray, List.set_cons_succ, List.set_cons_zero]
  intro w4 hw
  replace b_a := b_a.below hw b_a.lt
  replace b_b := b_b.below hw b_b.lt
  replace b_r := b_r.below hw b_r.lt
  replace hB := hB.trans (hw.mono hB.size)
  clear hw
  go_wp2_with (first
    | ((with_reducible refine at_storeX 4 47 ?_); refine L_store_all 47 _ _ (w2.heap.size) ([.int .i64 (s2), .int .u64 (sl)]) _ 47 rfl rfl b_r (szN 0) (rfl) (one_pair _ _) ?_; clear b_r; intro w5 t_ b_r; replace b_a := t_.blk b_a (by omega); replace b_b := t_.blk b_b (by omega); replace hB := t_.below hB l_r; clear t_))
  (try simp only [Exit.inBlock, Exit.then])
  exact bodyPost_ret (results_blk_tmp rfl _ ([.int .i64 s2, .int .u64 sl]) (.int .i64 0) _ rfl rfl b_r Try.underlying47 rfl (szN 0)) rfl ⟨by rw [hN.out], hB⟩

set_option maxRecDepth 10000 in
set_option maxHeartbeats 2000000 in
theorem sub_ok_01 (a b : Int) (w : World) (ha : In128 a) (hb : In128 b) (na : ¬ a < 0) (nb : b < 0) (ho : In128 (a - b)) :
    Calls Try.prog 36 #[.agg (nl a).toArray, .agg (nl b).toArray] w fun e w' => e = .returned (.tuple #[.agg (nl (a - b)).toArray, .int .i64 0]) ∧ Below w.heap.size w w' := by
  unfold In128 at ha hb ho
  obtain ⟨ah, hah⟩ : ∃ h, a / 18446744073709551616 = h := ⟨_, rfl⟩
  obtain ⟨al, hal⟩ : ∃ l, a % 18446744073709551616 = l := ⟨_, rfl⟩
  obtain ⟨bh, hbh⟩ : ∃ h, b / 18446744073709551616 = h := ⟨_, rfl⟩
  obtain ⟨bl, hbl⟩ : ∃ l, b % 18446744073709551616 = l := ⟨_, rfl⟩
  obtain ⟨sl, hsl⟩ : ∃ s, (al - bl) % 18446744073709551616 = s := ⟨_, rfl⟩
  obtain ⟨sc, hsc⟩ : ∃ s : Int, (if al < bl then 1 else 0) = s := ⟨_, rfl⟩
  have fx := fun v => f33_any al bl (by omega) (by omega) (by omega) v
  rw [hsl, hsc] at fx
  have hsc1 : sc = 0 ∨ sc = 1 := by (split at hsc <;> omega)
  have hv : al - bl = sl - sc * 18446744073709551616 := by (split at hsc <;> omega)
  obtain ⟨s1, hs1⟩ : ∃ s, IntKind.i64.wrap (ah - bh) = s := ⟨_, rfl⟩
  have f1 : IntKind.i64.wrap sc = sc := by rw [IntKind.wrap_i64]; omega
  obtain ⟨s2, hs2⟩ : ∃ s, IntKind.i64.wrap (s1 - sc) = s := ⟨_, rfl⟩
  have hs1' := hs1; have hs2' := hs2
  rw [IntKind.wrap_i64] at hs1' hs2'
  have hns : ¬ s2 < 0 := by omega
  have hN : Hid (Value.agg (nl (a - b)).toArray = .agg #[.int .i64 s2, .int .u64 sl]) := nl_mk _ _ _ (by omega) (by omega) (by omega)
  replace hah : Hid _ := hah
  replace hal : Hid _ := hal
  replace hbh : Hid _ := hbh
  replace hbl : Hid _ := hbl
  clear ho hs1' hs2' hsl hsc hv hsc1 ha hb
  go_enter Try.func36, Try.ntmps36
  go_wp2_with (first
    | ((with_reducible refine at_boxD 2 47 ?_); refine L_box 47 _ (nl (a)) rfl ?_; intro w1 t_ b_a; have l_a : w.heap.size ≤ w.heap.size := Nat.le_refl _; have hB : Below w.heap.size w w1 := t_.below (Below.refl _ _) (Nat.le_refl _); clear t_)
    | ((with_reducible refine at_boxD 3 47 ?_); refine L_box 47 _ (nl (b)) rfl ?_; intro w2 t_ b_b; have l_b : w.heap.size ≤ w1.heap.size := hB.size; have o_b := b_a.lt; replace b_a := t_.blk b_a (by omega); replace hB := t_.below hB l_b; clear t_)
    | ((with_reducible refine at_allocD 4 47 ?_); refine L_alloc 47 (nl (0)) zeroN ?_; intro w3 t_ b_r; have l_r : w.heap.size ≤ w2.heap.size := hB.size; have o_r := b_b.lt; replace b_a := t_.blk b_a (by omega); replace b_b := t_.blk b_b (by omega); replace hB := t_.below hB l_r; clear t_)
    | ((with_reducible refine at_loadD 11 41 ?_); refine L_cell41 _ (w.heap.size) 1 (nl (a)) 47 (.int .u64 (al)) rfl b_a (nl1 _ _ hal.out) ?_)
    | ((with_reducible refine at_loadD 13 41 ?_); refine L_cell41 _ (w1.heap.size) 1 (nl (b)) 47 (.int .u64 (bl)) rfl b_b (nl1 _ _ hbl.out) ?_)
    | ((with_reducible refine at_loadD 18 2 ?_); refine L_cell2 _ (w.heap.size) 0 (nl (a)) 47 (.int .i64 (ah)) rfl b_a (nl0 _ _ hah.out) ?_)
    | ((with_reducible refine at_loadD 20 2 ?_); refine L_cell2 _ (w1.heap.size) 0 (nl (b)) 47 (.int .i64 (bh)) rfl b_b (nl0 _ _ hbh.out) ?_)
    | ((with_reducible refine stop_region 3 ?_); intro X1 hX1))
  refine hX1.out ?_
  clear hX1
  refine wp_region_fixed (by kernel_rfl) (by kernel_rfl) [.agg (nl (a)).toArray, .bool false, .agg (nl (b)).toArray, .bool true, .bool true, .bool true, .int .i64 (s2), .bool false, .agg (nl (a)).toArray, .bool false, .bool false, .bool false] (by rfl) (fun w9 => Below w3.heap.size w3 w9) (Below.refl _ _).drew ?_ ?_
  · simp only [fullL, Act.put, List.setIfInBounds_toArray, List.set_cons_succ, List.set_cons_zero]
    refine ⟨?_, ?_, ?_, ?_, ?_, ?_, ?_, ?_, ?_, ?_, ?_, ?_, trivial⟩
    · exact fun w9 hw => gw rfl (g_load_all 47 _ (w.heap.size) _ 47 _ rfl (b_a.below hw b_a.lt) Try.underlying47 rfl (szN 0) ⟨rfl, hw⟩)
    · exact fun w9 hw => gw rfl (g_call 46 _ _ [.agg (nl (a)).toArray] (kf46 _ _) rfl (mono_val hw (below_pos a (by omega) w9)))
    · exact fun w9 hw => gw rfl (g_load_all 47 _ (w1.heap.size) _ 47 _ rfl (b_b.below hw b_b.lt) Try.underlying47 rfl (szN 0) ⟨rfl, hw⟩)
    · exact fun w9 hw => gw rfl (g_call 46 _ _ [.agg (nl (b)).toArray] (kf46 _ _) rfl (mono_val hw (below_neg b (by omega) w9)))
    · exact fun w9 hw => gw rfl (g_bneq _ _ _ _ rfl rfl ⟨rfl, hw⟩)
    · exact fun w9 hw => gw rfl (g_move _ _ rfl ⟨rfl, hw⟩)
    · exact fun w9 hw => gw rfl (g_move _ _ rfl ⟨rfl, hw⟩)
    · exact fun w9 hw => gw rfl (g_ilss 2 _ _ .i64 _ _ false rfl rfl (decide_eq_false (by omega)) ⟨rfl, hw⟩)
    · exact fun w9 hw => gw rfl (g_load_all 47 _ (w.heap.size) _ 47 _ rfl (b_a.below hw b_a.lt) Try.underlying47 rfl (szN 0) ⟨rfl, hw⟩)
    · exact fun w9 hw => gw rfl (g_call 46 _ _ [.agg (nl (a)).toArray] (kf46 _ _) rfl (mono_val hw (below_pos a (by omega) w9)))
    · exact fun w9 hw => gw rfl (g_bneq _ _ _ _ rfl rfl ⟨rfl, hw⟩)
    · exact fun w9 hw => gw rfl (g_pickt _ _ _ _ rfl rfl ⟨rfl, hw⟩)
  simp only [fullL, Act.put, List.setIfInBounds_toArray, List.set_cons_succ, List.set_cons_zero]
  intro w4 hw
  replace b_a := b_a.below hw b_a.lt
  replace b_b := b_b.below hw b_b.lt
  replace b_r := b_r.below hw b_r.lt
  replace hB := hB.trans (hw.mono hB.size)
  clear hw
  go_wp2_with (first
    | ((with_reducible refine at_storeX 4 47 ?_); refine L_store_all 47 _ _ (w2.heap.size) ([.int .i64 (s2), .int .u64 (sl)]) _ 47 rfl rfl b_r (szN 0) (rfl) (one_pair _ _) ?_; clear b_r; intro w5 t_ b_r; replace b_a := t_.blk b_a (by omega); replace b_b := t_.blk b_b (by omega); replace hB := t_.below hB l_r; clear t_))
  (try simp only [Exit.inBlock, Exit.then])
  exact bodyPost_ret (results_blk_tmp rfl _ ([.int .i64 s2, .int .u64 sl]) (.int .i64 0) _ rfl rfl b_r Try.underlying47 rfl (szN 0)) rfl ⟨by rw [hN.out], hB⟩

set_option maxRecDepth 10000 in
set_option maxHeartbeats 2000000 in
theorem sub_ok_00 (a b : Int) (w : World) (ha : In128 a) (hb : In128 b) (na : ¬ a < 0) (nb : ¬ b < 0) (ho : In128 (a - b)) :
    Calls Try.prog 36 #[.agg (nl a).toArray, .agg (nl b).toArray] w fun e w' => e = .returned (.tuple #[.agg (nl (a - b)).toArray, .int .i64 0]) ∧ Below w.heap.size w w' := by
  unfold In128 at ha hb ho
  obtain ⟨ah, hah⟩ : ∃ h, a / 18446744073709551616 = h := ⟨_, rfl⟩
  obtain ⟨al, hal⟩ : ∃ l, a % 18446744073709551616 = l := ⟨_, rfl⟩
  obtain ⟨bh, hbh⟩ : ∃ h, b / 18446744073709551616 = h := ⟨_, rfl⟩
  obtain ⟨bl, hbl⟩ : ∃ l, b % 18446744073709551616 = l := ⟨_, rfl⟩
  obtain ⟨sl, hsl⟩ : ∃ s, (al - bl) % 18446744073709551616 = s := ⟨_, rfl⟩
  obtain ⟨sc, hsc⟩ : ∃ s : Int, (if al < bl then 1 else 0) = s := ⟨_, rfl⟩
  have fx := fun v => f33_any al bl (by omega) (by omega) (by omega) v
  rw [hsl, hsc] at fx
  have hsc1 : sc = 0 ∨ sc = 1 := by (split at hsc <;> omega)
  have hv : al - bl = sl - sc * 18446744073709551616 := by (split at hsc <;> omega)
  obtain ⟨s1, hs1⟩ : ∃ s, IntKind.i64.wrap (ah - bh) = s := ⟨_, rfl⟩
  have f1 : IntKind.i64.wrap sc = sc := by rw [IntKind.wrap_i64]; omega
  obtain ⟨s2, hs2⟩ : ∃ s, IntKind.i64.wrap (s1 - sc) = s := ⟨_, rfl⟩
  have hs1' := hs1; have hs2' := hs2
  rw [IntKind.wrap_i64] at hs1' hs2'
  have hN : Hid (Value.agg (nl (a - b)).toArray = .agg #[.int .i64 s2, .int .u64 sl]) := nl_mk _ _ _ (by omega) (by omega) (by omega)
  replace hah : Hid _ := hah
  replace hal : Hid _ := hal
  replace hbh : Hid _ := hbh
  replace hbl : Hid _ := hbl
  clear ho hs1' hs2' hsl hsc hv hsc1 ha hb
  go_enter Try.func36, Try.ntmps36
  go_wp2_with (first
    | ((with_reducible refine at_boxD 2 47 ?_); refine L_box 47 _ (nl (a)) rfl ?_; intro w1 t_ b_a; have l_a : w.heap.size ≤ w.heap.size := Nat.le_refl _; have hB : Below w.heap.size w w1 := t_.below (Below.refl _ _) (Nat.le_refl _); clear t_)
    | ((with_reducible refine at_boxD 3 47 ?_); refine L_box 47 _ (nl (b)) rfl ?_; intro w2 t_ b_b; have l_b : w.heap.size ≤ w1.heap.size := hB.size; have o_b := b_a.lt; replace b_a := t_.blk b_a (by omega); replace hB := t_.below hB l_b; clear t_)
    | ((with_reducible refine at_allocD 4 47 ?_); refine L_alloc 47 (nl (0)) zeroN ?_; intro w3 t_ b_r; have l_r : w.heap.size ≤ w2.heap.size := hB.size; have o_r := b_b.lt; replace b_a := t_.blk b_a (by omega); replace b_b := t_.blk b_b (by omega); replace hB := t_.below hB l_r; clear t_)
    | ((with_reducible refine at_loadD 11 41 ?_); refine L_cell41 _ (w.heap.size) 1 (nl (a)) 47 (.int .u64 (al)) rfl b_a (nl1 _ _ hal.out) ?_)
    | ((with_reducible refine at_loadD 13 41 ?_); refine L_cell41 _ (w1.heap.size) 1 (nl (b)) 47 (.int .u64 (bl)) rfl b_b (nl1 _ _ hbl.out) ?_)
    | ((with_reducible refine at_loadD 18 2 ?_); refine L_cell2 _ (w.heap.size) 0 (nl (a)) 47 (.int .i64 (ah)) rfl b_a (nl0 _ _ hah.out) ?_)
    | ((with_reducible refine at_loadD 20 2 ?_); refine L_cell2 _ (w1.heap.size) 0 (nl (b)) 47 (.int .i64 (bh)) rfl b_b (nl0 _ _ hbh.out) ?_)
    | ((with_reducible refine stop_region 3 ?_); intro X1 hX1))
  refine hX1.out ?_
  clear hX1
  refine wp_region_fixed (by kernel_rfl) (by kernel_rfl) [.agg (nl (a)).toArray, .bool false, .agg (nl (b)).toArray, .bool false, .bool false, .bool false, undef, undef, undef, undef, undef, .bool false] (by rfl) (fun w9 => Below w3.heap.size w3 w9) (Below.refl _ _).drew ?_ ?_
  · simp only [fullL, Act.put, List.setIfInBounds_toArray, List.set_cons_succ, List.set_cons_zero]
    refine ⟨?_, ?_, ?_, ?_, ?_, ?_, ?_, ?_, ?_, ?_, ?_, ?_, trivial⟩
    · exact fun w9 hw => gw rfl (g_load_all 47 _ (w.heap.size) _ 47 _ rfl (b_a.below hw b_a.lt) Try.underlying47 rfl (szN 0) ⟨rfl, hw⟩)
    · exact fun w9 hw => gw rfl (g_call 46 _ _ [.agg (nl (a)).toArray] (kf46 _ _) rfl (mono_val hw (below_pos a (by omega) w9)))
    · exact fun w9 hw => gw rfl (g_load_all 47 _ (w1.heap.size) _ 47 _ rfl (b_b.below hw b_b.lt) Try.underlying47 rfl (szN 0) ⟨rfl, hw⟩)
    · exact fun w9 hw => gw rfl (g_call 46 _ _ [.agg (nl (b)).toArray] (kf46 _ _) rfl (mono_val hw (below_pos b (by omega) w9)))
    · exact fun w9 hw => gw rfl (g_bneq _ _ _ _ rfl rfl ⟨rfl, hw⟩)
    · exact fun w9 hw => gw rfl (g_move _ _ rfl ⟨rfl, hw⟩)
    · exact fun w9 hw => gn rfl ⟨rfl, hw⟩
    · exact fun w9 hw => gn rfl ⟨rfl, hw⟩
    · exact fun w9 hw => gn rfl ⟨rfl, hw⟩
    · exact fun w9 hw => gn rfl ⟨rfl, hw⟩
    · exact fun w9 hw => gn rfl ⟨rfl, hw⟩
    · exact fun w9 hw => gw rfl (g_pickf _ _ _ _ rfl rfl ⟨rfl, hw⟩)
  simp only [fullL, Act.put, List.setIfInBounds_toArray, List.set_cons_succ, List.set_cons_zero]
  intro w4 hw
  replace b_a := b_a.below hw b_a.lt
  replace b_b := b_b.below hw b_b.lt
  replace b_r := b_r.below hw b_r.lt
  replace hB := hB.trans (hw.mono hB.size)
  clear hw
  go_wp2_with (first
    | ((with_reducible refine at_storeX 4 47 ?_); refine L_store_all 47 _ _ (w2.heap.size) ([.int .i64 (s2), .int .u64 (sl)]) _ 47 rfl rfl b_r (szN 0) (rfl) (one_pair _ _) ?_; clear b_r; intro w5 t_ b_r; replace b_a := t_.blk b_a (by omega); replace b_b := t_.blk b_b (by omega); replace hB := t_.below hB l_r; clear t_))
  (try simp only [Exit.inBlock, Exit.then])
  exact bodyPost_ret (results_blk_tmp rfl _ ([.int .i64 s2, .int .u64 sl]) (.int .i64 0) _ rfl rfl b_r Try.underlying47 rfl (szN 0)) rfl ⟨by rw [hN.out], hB⟩

set_option maxRecDepth 10000 in
set_option maxHeartbeats 2000000 in
theorem sub_over_10 (a b : Int) (w : World) (ha : In128 a) (hb : In128 b) (na : a < 0) (nb : ¬ b < 0) (ho : ¬ In128 (a - b)) :
    Calls Try.prog 36 #[.agg (nl a).toArray, .agg (nl b).toArray] w fun e w' => e = .returned (.tuple #[.agg (nl 0).toArray, .int .i64 6]) ∧ Below w.heap.size w w' := by
  unfold In128 at ha hb ho
  obtain ⟨ah, hah⟩ : ∃ h, a / 18446744073709551616 = h := ⟨_, rfl⟩
  obtain ⟨al, hal⟩ : ∃ l, a % 18446744073709551616 = l := ⟨_, rfl⟩
  obtain ⟨bh, hbh⟩ : ∃ h, b / 18446744073709551616 = h := ⟨_, rfl⟩
  obtain ⟨bl, hbl⟩ : ∃ l, b % 18446744073709551616 = l := ⟨_, rfl⟩
  obtain ⟨sl, hsl⟩ : ∃ s, (al - bl) % 18446744073709551616 = s := ⟨_, rfl⟩
  obtain ⟨sc, hsc⟩ : ∃ s : Int, (if al < bl then 1 else 0) = s := ⟨_, rfl⟩
  have fx := fun v => f33_any al bl (by omega) (by omega) (by omega) v
  rw [hsl, hsc] at fx
  have hsc1 : sc = 0 ∨ sc = 1 := by (split at hsc <;> omega)
  have hv : al - bl = sl - sc * 18446744073709551616 := by (split at hsc <;> omega)
  obtain ⟨s1, hs1⟩ : ∃ s, IntKind.i64.wrap (ah - bh) = s := ⟨_, rfl⟩
  have f1 : IntKind.i64.wrap sc = sc := by rw [IntKind.wrap_i64]; omega
  obtain ⟨s2, hs2⟩ : ∃ s, IntKind.i64.wrap (s1 - sc) = s := ⟨_, rfl⟩
  have hs1' := hs1; have hs2' := hs2
  rw [IntKind.wrap_i64] at hs1' hs2'
  have hns : ¬ s2 < 0 := by omega
  replace hah : Hid _ := hah
  replace hal : Hid _ := hal
  replace hbh : Hid _ := hbh
  replace hbl : Hid _ := hbl
  clear ho hs1' hs2' hsl hsc hv hsc1 ha hb
  go_enter Try.func36, Try.ntmps36
  go_wp2_with (first
    | ((with_reducible refine at_boxD 2 47 ?_); refine L_box 47 _ (nl (a)) rfl ?_; intro w1 t_ b_a; have l_a : w.heap.size ≤ w.heap.size := Nat.le_refl _; have hB : Below w.heap.size w w1 := t_.below (Below.refl _ _) (Nat.le_refl _); clear t_)
    | ((with_reducible refine at_boxD 3 47 ?_); refine L_box 47 _ (nl (b)) rfl ?_; intro w2 t_ b_b; have l_b : w.heap.size ≤ w1.heap.size := hB.size; have o_b := b_a.lt; replace b_a := t_.blk b_a (by omega); replace hB := t_.below hB l_b; clear t_)
    | ((with_reducible refine at_allocD 4 47 ?_); refine L_alloc 47 (nl (0)) zeroN ?_; intro w3 t_ b_r; have l_r : w.heap.size ≤ w2.heap.size := hB.size; have o_r := b_b.lt; replace b_a := t_.blk b_a (by omega); replace b_b := t_.blk b_b (by omega); replace hB := t_.below hB l_r; clear t_)
    | ((with_reducible refine at_loadD 11 41 ?_); refine L_cell41 _ (w.heap.size) 1 (nl (a)) 47 (.int .u64 (al)) rfl b_a (nl1 _ _ hal.out) ?_)
    | ((with_reducible refine at_loadD 13 41 ?_); refine L_cell41 _ (w1.heap.size) 1 (nl (b)) 47 (.int .u64 (bl)) rfl b_b (nl1 _ _ hbl.out) ?_)
    | ((with_reducible refine at_loadD 18 2 ?_); refine L_cell2 _ (w.heap.size) 0 (nl (a)) 47 (.int .i64 (ah)) rfl b_a (nl0 _ _ hah.out) ?_)
    | ((with_reducible refine at_loadD 20 2 ?_); refine L_cell2 _ (w1.heap.size) 0 (nl (b)) 47 (.int .i64 (bh)) rfl b_b (nl0 _ _ hbh.out) ?_)
    | ((with_reducible refine stop_region 3 ?_); intro X1 hX1))
  refine hX1.out ?_
  clear hX1
  refine wp_region_fixed (by kernel_rfl) (by kernel_rfl) [.agg (nl (a)).toArray, .bool true, .agg (nl (b)).toArray, .bool false, .bool true, .bool true, .int .i64 (s2), .bool false, .agg (nl (a)).toArray, .bool true, .bool true, .bool true] (by rfl) (fun w9 => Below w3.heap.size w3 w9) (Below.refl _ _).drew ?_ ?_
  · simp only [fullL, Act.put, List.setIfInBounds_toArray, List.set_cons_succ, List.set_cons_zero]
    refine ⟨?_, ?_, ?_, ?_, ?_, ?_, ?_, ?_, ?_, ?_, ?_, ?_, trivial⟩
    · exact fun w9 hw => gw rfl (g_load_all 47 _ (w.heap.size) _ 47 _ rfl (b_a.below hw b_a.lt) Try.underlying47 rfl (szN 0) ⟨rfl, hw⟩)
    · exact fun w9 hw => gw rfl (g_call 46 _ _ [.agg (nl (a)).toArray] (kf46 _ _) rfl (mono_val hw (below_neg a (by omega) w9)))
    · exact fun w9 hw => gw rfl (g_load_all 47 _ (w1.heap.size) _ 47 _ rfl (b_b.below hw b_b.lt) Try.underlying47 rfl (szN 0) ⟨rfl, hw⟩)
    · exact fun w9 hw => gw rfl (g_call 46 _ _ [.agg (nl (b)).toArray] (kf46 _ _) rfl (mono_val hw (below_pos b (by omega) w9)))
    · exact fun w9 hw => gw rfl (g_bneq _ _ _ _ rfl rfl ⟨rfl, hw⟩)
    · exact fun w9 hw => gw rfl (g_move _ _ rfl ⟨rfl, hw⟩)
    · exact fun w9 hw => gw rfl (g_move _ _ rfl ⟨rfl, hw⟩)
    · exact fun w9 hw => gw rfl (g_ilss 2 _ _ .i64 _ _ false rfl rfl (decide_eq_false (by omega)) ⟨rfl, hw⟩)
    · exact fun w9 hw => gw rfl (g_load_all 47 _ (w.heap.size) _ 47 _ rfl (b_a.below hw b_a.lt) Try.underlying47 rfl (szN 0) ⟨rfl, hw⟩)
    · exact fun w9 hw => gw rfl (g_call 46 _ _ [.agg (nl (a)).toArray] (kf46 _ _) rfl (mono_val hw (below_neg a (by omega) w9)))
    · exact fun w9 hw => gw rfl (g_bneq _ _ _ _ rfl rfl ⟨rfl, hw⟩)
    · exact fun w9 hw => gw rfl (g_pickt _ _ _ _ rfl rfl ⟨rfl, hw⟩)
  simp only [fullL, Act.put, List.setIfInBounds_toArray, List.set_cons_succ, List.set_cons_zero]
  intro w4 hw
  replace b_a := b_a.below hw b_a.lt
  replace b_b := b_b.below hw b_b.lt
  replace b_r := b_r.below hw b_r.lt
  replace hB := hB.trans (hw.mono hB.size)
  clear hw
  go_wp2_with (first
    | ((with_reducible refine at_storeX 4 47 ?_); refine L_store_all 47 _ _ (w2.heap.size) (nl (0)) _ 47 rfl rfl b_r (szN 0) (rfl) (one_nl _) ?_; clear b_r; intro w5 t_ b_r; replace b_a := t_.blk b_a (by omega); replace b_b := t_.blk b_b (by omega); replace hB := t_.below hB l_r; clear t_))
  (try simp only [Exit.inBlock, Exit.then])
  exact bodyPost_ret (results_blk_tmp rfl _ (nl 0) (.int .i64 6) _ rfl rfl b_r Try.underlying47 rfl (szN 0)) rfl ⟨rfl, hB⟩

set_option maxRecDepth 10000 in
set_option maxHeartbeats 2000000 in
theorem sub_over_01 (a b : Int) (w : World) (ha : In128 a) (hb : In128 b) (na : ¬ a < 0) (nb : b < 0) (ho : ¬ In128 (a - b)) :
    Calls Try.prog 36 #[.agg (nl a).toArray, .agg (nl b).toArray] w fun e w' => e = .returned (.tuple #[.agg (nl 0).toArray, .int .i64 6]) ∧ Below w.heap.size w w' := by
  unfold In128 at ha hb ho
  obtain ⟨ah, hah⟩ : ∃ h, a / 18446744073709551616 = h := ⟨_, rfl⟩
  obtain ⟨al, hal⟩ : ∃ l, a % 18446744073709551616 = l := ⟨_, rfl⟩
  obtain ⟨bh, hbh⟩ : ∃ h, b / 18446744073709551616 = h := ⟨_, rfl⟩
  obtain ⟨bl, hbl⟩ : ∃ l, b % 18446744073709551616 = l := ⟨_, rfl⟩
  obtain ⟨sl, hsl⟩ : ∃ s, (al - bl) % 18446744073709551616 = s := ⟨_, rfl⟩
  obtain ⟨sc, hsc⟩ : ∃ s : Int, (if al < bl then 1 else 0) = s := ⟨_, rfl⟩
  have fx := fun v => f33_any al bl (by omega) (by omega) (by omega) v
  rw [hsl, hsc] at fx
  have hsc1 : sc = 0 ∨ sc = 1 := by (split at hsc <;> omega)
  have hv : al - bl = sl - sc * 18446744073709551616 := by (split at hsc <;> omega)
  obtain ⟨s1, hs1⟩ : ∃ s, IntKind.i64.wrap (ah - bh) = s := ⟨_, rfl⟩
  have f1 : IntKind.i64.wrap sc = sc := by rw [IntKind.wrap_i64]; omega
  obtain ⟨s2, hs2⟩ : ∃ s, IntKind.i64.wrap (s1 - sc) = s := ⟨_, rfl⟩
  have hs1' := hs1; have hs2' := hs2
  rw [IntKind.wrap_i64] at hs1' hs2'
  have hns : s2 < 0 := by omega
  replace hah : Hid _ := hah
  replace hal : Hid _ := hal
  replace hbh : Hid _ := hbh
  replace hbl : Hid _ := hbl
  clear ho hs1' hs2' hsl hsc hv hsc1 ha hb
  go_enter Try.func36, Try.ntmps36
  go_wp2_with (first
    | ((with_reducible refine at_boxD 2 47 ?_); refine L_box 47 _ (nl (a)) rfl ?_; intro w1 t_ b_a; have l_a : w.heap.size ≤ w.heap.size := Nat.le_refl _; have hB : Below w.heap.size w w1 := t_.below (Below.refl _ _) (Nat.le_refl _); clear t_)
    | ((with_reducible refine at_boxD 3 47 ?_); refine L_box 47 _ (nl (b)) rfl ?_; intro w2 t_ b_b; have l_b : w.heap.size ≤ w1.heap.size := hB.size; have o_b := b_a.lt; replace b_a := t_.blk b_a (by omega); replace hB := t_.below hB l_b; clear t_)
    | ((with_reducible refine at_allocD 4 47 ?_); refine L_alloc 47 (nl (0)) zeroN ?_; intro w3 t_ b_r; have l_r : w.heap.size ≤ w2.heap.size := hB.size; have o_r := b_b.lt; replace b_a := t_.blk b_a (by omega); replace b_b := t_.blk b_b (by omega); replace hB := t_.below hB l_r; clear t_)
    | ((with_reducible refine at_loadD 11 41 ?_); refine L_cell41 _ (w.heap.size) 1 (nl (a)) 47 (.int .u64 (al)) rfl b_a (nl1 _ _ hal.out) ?_)
    | ((with_reducible refine at_loadD 13 41 ?_); refine L_cell41 _ (w1.heap.size) 1 (nl (b)) 47 (.int .u64 (bl)) rfl b_b (nl1 _ _ hbl.out) ?_)
    | ((with_reducible refine at_loadD 18 2 ?_); refine L_cell2 _ (w.heap.size) 0 (nl (a)) 47 (.int .i64 (ah)) rfl b_a (nl0 _ _ hah.out) ?_)
    | ((with_reducible refine at_loadD 20 2 ?_); refine L_cell2 _ (w1.heap.size) 0 (nl (b)) 47 (.int .i64 (bh)) rfl b_b (nl0 _ _ hbh.out) ?_)
    | ((with_reducible refine stop_region 3 ?_); intro X1 hX1))
  refine hX1.out ?_
  clear hX1
  refine wp_region_fixed (by kernel_rfl) (by kernel_rfl) [.agg (nl (a)).toArray, .bool false, .agg (nl (b)).toArray, .bool true, .bool true, .bool true, .int .i64 (s2), .bool true, .agg (nl (a)).toArray, .bool false, .bool true, .bool true] (by rfl) (fun w9 => Below w3.heap.size w3 w9) (Below.refl _ _).drew ?_ ?_
  · simp only [fullL, Act.put, List.setIfInBounds_toArray, List.set_cons_succ, List.set_cons_zero]
    refine ⟨?_, ?_, ?_, ?_, ?_, ?_, ?_, ?_, ?_, ?_, ?_, ?_, trivial⟩
    · exact fun w9 hw => gw rfl (g_load_all 47 _ (w.heap.size) _ 47 _ rfl (b_a.below hw b_a.lt) Try.underlying47 rfl (szN 0) ⟨rfl, hw⟩)
    · exact fun w9 hw => gw rfl (g_call 46 _ _ [.agg (nl (a)).toArray] (kf46 _ _) rfl (mono_val hw (below_pos a (by omega) w9)))
    · exact fun w9 hw => gw rfl (g_load_all 47 _ (w1.heap.size) _ 47 _ rfl (b_b.below hw b_b.lt) Try.underlying47 rfl (szN 0) ⟨rfl, hw⟩)
    · exact fun w9 hw => gw rfl (g_call 46 _ _ [.agg (nl (b)).toArray] (kf46 _ _) rfl (mono_val hw (below_neg b (by omega) w9)))
    · exact fun w9 hw => gw rfl (g_bneq _ _ _ _ rfl rfl ⟨rfl, hw⟩)
    · exact fun w9 hw => gw rfl (g_move _ _ rfl ⟨rfl, hw⟩)
    · exact fun w9 hw => gw rfl (g_move _ _ rfl ⟨rfl, hw⟩)
    · exact fun w9 hw => gw rfl (g_ilss 2 _ _ .i64 _ _ true rfl rfl (decide_eq_true (by omega)) ⟨rfl, hw⟩)
    · exact fun w9 hw => gw rfl (g_load_all 47 _ (w.heap.size) _ 47 _ rfl (b_a.below hw b_a.lt) Try.underlying47 rfl (szN 0) ⟨rfl, hw⟩)
    · exact fun w9 hw => gw rfl (g_call 46 _ _ [.agg (nl (a)).toArray] (kf46 _ _) rfl (mono_val hw (below_pos a (by omega) w9)))
    · exact fun w9 hw => gw rfl (g_bneq _ _ _ _ rfl rfl ⟨rfl, hw⟩)
    · exact fun w9 hw => gw rfl (g_pickt _ _ _ _ rfl rfl ⟨rfl, hw⟩)
  simp only [fullL, Act.put, List.setIfInBounds_toArray, List.set_cons_succ, List.set_cons_zero]
  intro w4 hw
  replace b_a := b_a.below hw b_a.lt
  replace b_b := b_b.below hw b_b.lt
  replace b_r := b_r.below hw b_r.lt
  replace hB := hB.trans (hw.mono hB.size)
  clear hw
  go_wp2_with (first
    | ((with_reducible refine at_storeX 4 47 ?_); refine L_store_all 47 _ _ (w2.heap.size) (nl (0)) _ 47 rfl rfl b_r (szN 0) (rfl) (one_nl _) ?_; clear b_r; intro w5 t_ b_r; replace b_a := t_.blk b_a (by omega); replace b_b := t_.blk b_b (by omega); replace hB := t_.below hB l_r; clear t_))
  (try simp only [Exit.inBlock, Exit.then])
  exact bodyPost_ret (results_blk_tmp rfl _ (nl 0) (.int .i64 6) _ rfl rfl b_r Try.underlying47 rfl (szN 0)) rfl ⟨rfl, hB⟩

theorem sub_ok (a b : Int) (w : World) (ha : In128 a) (hb : In128 b) (ho : In128 (a - b)) :
    Calls Try.prog 36 #[.agg (nl a).toArray, .agg (nl b).toArray] w fun e w' => e = .returned (.tuple #[.agg (nl (a - b)).toArray, .int .i64 0]) ∧ Below w.heap.size w w' := by
  by_cases na : a < 0 <;> by_cases nb : b < 0
  · exact sub_ok_11 a b w ha hb na nb ho
  · exact sub_ok_10 a b w ha hb na nb ho
  · exact sub_ok_01 a b w ha hb na nb ho
  · exact sub_ok_00 a b w ha hb na nb ho

theorem sub_over (a b : Int) (w : World) (ha : In128 a) (hb : In128 b) (ho : ¬ In128 (a - b)) :
    Calls Try.prog 36 #[.agg (nl a).toArray, .agg (nl b).toArray] w fun e w' => e = .returned (.tuple #[.agg (nl 0).toArray, .int .i64 6]) ∧ Below w.heap.size w w' := by
  by_cases na : a < 0 <;> by_cases nb : b < 0
  · exact absurd (by unfold In128 at *; omega) ho
  · exact sub_over_10 a b w ha hb na nb ho
  · exact sub_over_01 a b w ha hb na nb ho
  · exact absurd (by unfold In128 at *; omega) ho

end Go.Proofs.Ytcllmobjdnhmlaa
