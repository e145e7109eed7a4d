/- The calls that each statement of the layer asks first, and what they answer. -/
import Derived.Test.YtpeiboehdjhimaaSt4
namespace Go.Proofs.Ytpeiboehdjhimaa
open Go Go.RowKit
set_option linter.unusedVariables false

set_option maxRecDepth 10000 in
set_option maxHeartbeats 4000000 in
theorem awake_any (w : World) : Calls Try.prog 11 #[] w fun e w' => e = .returned (.bool true) ∧ Below w.heap.size w w' := by
  have i0 : In128 (0) := by unfold In128; omega
  have i1 : In128 (18446744073709551616) := by unfold In128; omega
  have i2 : In128 (18446744073709551621) := by unfold In128; omega
  have i3 : In128 (9223372036854775808) := by unfold In128; omega
  have i5 : In128 (5) := by unfold In128; omega
  have i9 : In128 (9) := by unfold In128; omega
  have j1 : In64 (65537) := by unfold In64; omega
  have j2 : In64 (-1) := by unfold In64; omega
  have j3 : In64 (1000000) := by unfold In64; omega
  have j4 : In64 (4294967296) := by unfold In64; omega
  have j5 : In64 (5) := by unfold In64; omega
  have j9 : In64 (9) := by unfold In64; omega
  have jm4 : In64 (-4) := by unfold In64; omega
  have n1 : Hid (nr 5 18446744073709551616 = 18446744073709551621) := by show nr 5 18446744073709551616 = 18446744073709551621; decide
  have n2 : Hid (nr 9223372036854775808 0 = 9223372036854775808) := by show nr 9223372036854775808 0 = 9223372036854775808; decide
  have n3 : Hid (sh 65537 = 2) := by show sh 65537 = 2; decide
  have n4 : Hid ((5 : Int) - 9 = -4) := by show (5 : Int) - 9 = -4; decide
  have m1 : Hid ((1000000 : Int) * 4294967296 = 4294967296000000) := by show (1000000 : Int) * 4294967296 = 4294967296000000; decide
  have m2 : Hid ((4294967296000000 : Int) / 1000000 = 4294967296) := by show (4294967296000000 : Int) / 1000000 = 4294967296; decide
  have m3 : Hid ((-1 : Int) * 1000000 = -1000000) := by show (-1 : Int) * 1000000 = -1000000; decide
  have m4 : Hid ((-1000000 : Int) / 4294967296 = -1) := by show (-1000000 : Int) / 4294967296 = -1; decide
  have d1 : IntKind.i64.wrap (IntKind.u64.wrap (1 - 18446744073709551615)) = 2 := by rw [IntKind.wrap_i64, IntKind.wrap_u64]; decide
  have a1 : IntKind.u64.wrap (18446744073709551615 + IntKind.u64.wrap 2) = 1 := by rw [IntKind.wrap_u64, IntKind.wrap_u64]; decide
  have f1 : (18446744073709551621 : Int) % 18446744073709551616 = 5 := by decide
  have l1 : IntKind.i64.wrap 3 = 3 := by rw [IntKind.wrap_i64]; decide
  have l2 : IntKind.i64.wrap (3 * 65536) = 196608 := by rw [IntKind.wrap_i64]; decide
  go_enter Try.func11, Try.ntmps11
  simp only [List.append_eq, List.cons_append, List.nil_append]
  go_wp2_with fail
  refine (near_ok 5 18446744073709551616 18446744073709551621 w i1 n1 i2).mono ?_
  rintro e w1 ⟨rfl, t_⟩
  have hB := t_
  clear t_
  go_wp2_with (first
    | ((with_reducible refine at_allocD 1 25 ?_); refine L_alloc 25 (nl (0)) zeroN ?_; intro w2 t_ b_n; have l_n : w.heap.size ≤ w1.heap.size := hB.size; replace hB := t_.below hB l_n; clear t_)
    | ((with_reducible refine at_storeX 1 25 ?_); refine L_store_all 25 _ _ (w1.heap.size) (nl (18446744073709551621)) _ 25 rfl rfl b_n (szN 0) (rfl) (one_nl _) ?_; have b0_n := b_n; clear b_n; intro w3 t_ b_n; replace hB := t_.below hB l_n; clear t_ b0_n))
  refine (near_ok 9223372036854775808 0 9223372036854775808 w3 i0 n2 i3).mono ?_
  rintro e w4 ⟨rfl, t_⟩
  replace b_n := b_n.below t_ b_n.lt
  replace hB := hB.trans (t_.mono hB.size)
  clear t_
  go_wp2_with (first
    | ((with_reducible refine at_allocD 3 25 ?_); refine L_alloc 25 (nl (0)) zeroN ?_; intro w5 t_ b_m; have l_m : w.heap.size ≤ w4.heap.size := hB.size; have o_m := b_n.lt; replace b_n := t_.blk b_n (by omega); replace hB := t_.below hB l_m; clear t_)
    | ((with_reducible refine at_storeX 3 25 ?_); refine L_store_all 25 _ _ (w4.heap.size) (nl (9223372036854775808)) _ 25 rfl rfl b_m (szN 0) (rfl) (one_nl _) ?_; have b0_m := b_m; clear b_m; intro w6 t_ b_m; replace b_n := t_.blk b_n (by omega); replace hB := t_.below hB l_m; clear t_ b0_m))
  refine (short_ok 65537 2 w6 j1 (by omega) n3 (by omega)).mono ?_
  rintro e w7 ⟨rfl, hW_⟩
  rw [hW_]
  clear hW_ w7
  go_wp2_with fail
  refine (short_bad (-1) w6 j2 (.inl (by omega))).mono ?_
  rintro e w7 ⟨rfl, hW_⟩
  rw [hW_]
  clear hW_ w7
  go_wp2_with fail
  refine (ticks_ok 1000000 4294967296000000 4294967296 w6 j3 m1 m2 j4).mono ?_
  rintro e w7 ⟨rfl, t_⟩
  replace b_n := b_n.below t_ b_n.lt
  replace b_m := b_m.below t_ b_m.lt
  replace hB := hB.trans (t_.mono hB.size)
  clear t_
  go_wp2_with fail
  refine (of_any 5 w7 j5).mono ?_
  rintro e w8 ⟨rfl, t_⟩
  replace b_n := b_n.below t_ b_n.lt
  replace b_m := b_m.below t_ b_m.lt
  replace hB := hB.trans (t_.mono hB.size)
  clear t_
  go_wp2_with fail
  refine (of_any 9 w8 j9).mono ?_
  rintro e w9 ⟨rfl, t_⟩
  replace b_n := b_n.below t_ b_n.lt
  replace b_m := b_m.below t_ b_m.lt
  replace hB := hB.trans (t_.mono hB.size)
  clear t_
  go_wp2_with fail
  refine (since_ok 5 9 (-4) w9 i5 i9 n4 jm4).mono ?_
  rintro e w10 ⟨rfl, t_⟩
  replace b_n := b_n.below t_ b_n.lt
  replace b_m := b_m.below t_ b_m.lt
  replace hB := hB.trans (t_.mono hB.size)
  clear t_
  go_wp2_with fail
  refine (diff_any 1 18446744073709551615 2 w10 d1).mono ?_
  rintro e w11 ⟨rfl, hW_⟩
  rw [hW_]
  clear hW_ w11
  go_wp2_with fail
  refine (sadd_any 18446744073709551615 2 1 w10 a1).mono ?_
  rintro e w11 ⟨rfl, hW_⟩
  rw [hW_]
  clear hW_ w11
  go_wp2_with (first
    | ((with_reducible refine at_loadDG 48 ?_); refine L_give (by rfl) (g_load_all 25 _ (w1.heap.size) (nl (18446744073709551621)) 25 _ rfl b_n Try.underlying25 rfl (szN 0) ?_))
    | ((with_reducible refine at_binD 50 ?_); refine L_give (by rfl) (g_eqlN _ _ (18446744073709551621) (18446744073709551621) true rfl rfl (decide_eq_true rfl) ?_))
    | ((with_reducible refine at_loadDG 57 ?_); refine L_give (by rfl) (g_load_all 25 _ (w4.heap.size) (nl (9223372036854775808)) 25 _ rfl b_m Try.underlying25 rfl (szN 0) ?_))
    | ((with_reducible refine at_binD 59 ?_); refine L_give (by rfl) (g_eqlN _ _ (9223372036854775808) (9223372036854775808) true rfl rfl (decide_eq_true rfl) ?_))
    | ((with_reducible refine at_loadDG 66 ?_); refine L_give (by rfl) (g_load_all 25 _ (w1.heap.size) (nl (18446744073709551621)) 25 _ rfl b_n Try.underlying25 rfl (szN 0) ?_)))
  refine (fold_any 18446744073709551621 5 w10 f1).mono ?_
  rintro e w11 ⟨rfl, t_⟩
  replace b_n := b_n.below t_ b_n.lt
  replace b_m := b_m.below t_ b_m.lt
  replace hB := hB.trans (t_.mono hB.size)
  clear t_
  go_wp2_with fail
  refine (long_any 3 196608 w11 l1 l2).mono ?_
  rintro e w12 ⟨rfl, hW_⟩
  rw [hW_]
  clear hW_ w12
  go_wp2_with fail
  refine (micros_any (-1) (-1000000) (-1) w11 j2 m3 m4).mono ?_
  rintro e w12 ⟨rfl, t_⟩
  replace b_n := b_n.below t_ b_n.lt
  replace b_m := b_m.below t_ b_m.lt
  replace hB := hB.trans (t_.mono hB.size)
  clear t_
  go_wp2_with fail
  go_ret
  exact ⟨rfl, hB⟩

end Go.Proofs.Ytpeiboehdjhimaa
