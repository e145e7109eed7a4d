/- What the program's wide.Times answers, at all numbers of 64 bits; nothing that was there is changed. -/
import Derived.Test.YtcllmobjdnhmlaaWide2
import Derived.Test.YtcllmobjdnhmlaaGives
namespace Go.Proofs.Ytcllmobjdnhmlaa
open Go.RowKit
theorem mul_l (X Y : Nat) (U V : Int) (hX : X < 18446744073709551616) (hY : Y < 18446744073709551616) (hU : Hid (((X * Y / 18446744073709551616 : Nat) : Int) = U)) (hV : Hid (((X * Y % 18446744073709551616 : Nat) : Int) = V)) (w : World) :
    Calls Try.prog 47 #[.int .u64 X, .int .u64 Y] w fun e w' => e = .returned (.tuple #[.int .u64 U, .int .u64 V]) ∧ w' = w := by
  have h := mul_any X Y hX hY w
  rwa [hU.out, hV.out] at h
theorem one_pair (x y : Int) : ∀ v ∈ [Value.int .i64 x, .int .u64 y], v.oneCell' = true := by
  intro v hv
  simp only [List.mem_cons, List.not_mem_nil, or_false] at hv
  rcases hv with rfl | rfl <;> rfl
theorem mul_split (a b : Int) (X Y : Nat) (sa sb : Int) (hX : a + sa * 18446744073709551616 = X) (hY : b + sb * 18446744073709551616 = Y) :
    a * b = (X : Int) * Y - (sa * b + sb * a + sa * sb * 18446744073709551616) * 18446744073709551616 := by
  rw [← hX, ← hY, Int.add_mul, Int.mul_add, Int.mul_add]
  have e1 : a * (sb * 18446744073709551616) = sb * a * 18446744073709551616 := by rw [← Int.mul_assoc, Int.mul_comm a sb]
  have e2 : sa * 18446744073709551616 * b = sa * b * 18446744073709551616 := by rw [Int.mul_right_comm]
  have e3 : sa * 18446744073709551616 * (sb * 18446744073709551616) = sa * sb * 18446744073709551616 * 18446744073709551616 := by
    rw [← Int.mul_assoc, Int.mul_right_comm sa, Int.mul_assoc, Int.mul_assoc]
  rw [e1, e2, e3]
  omega

theorem prod_bound (a b : Int) (ha : -9223372036854775808 ≤ a ∧ a < 9223372036854775808) (hb : -9223372036854775808 ≤ b ∧ b < 9223372036854775808) : -85070591730234615865843651857942052864 ≤ a * b ∧ a * b ≤ 85070591730234615865843651857942052864 := by
  have h : (a * b).natAbs ≤ 9223372036854775808 * 9223372036854775808 := by
    rw [Int.natAbs_mul]
    exact Nat.mul_le_mul (by omega) (by omega)
  omega

set_option maxRecDepth 10000 in
set_option maxHeartbeats 2000000 in
theorem times_00 (a b : Int) (w : World) (ha : In64 a) (hb : In64 b) (na : ¬ a < 0) (nb : ¬ b < 0) :
    Calls Try.prog 32 #[.int .i64 a, .int .i64 b] w fun e w' => e = .returned (.agg (nl (a * b)).toArray) ∧ Below w.heap.size w w' := by
  unfold In64 at ha hb
  obtain ⟨X, hX⟩ := Int.eq_ofNat_of_zero_le (show 0 ≤ a + 0 * 18446744073709551616 by omega)
  obtain ⟨Y, hY⟩ := Int.eq_ofNat_of_zero_le (show 0 ≤ b + 0 * 18446744073709551616 by omega)
  have hXl : X < 18446744073709551616 := by omega
  have hYl : Y < 18446744073709551616 := by omega
  have hsp := mul_split a b X Y 0 0 hX hY
  have hbd : -85070591730234615865843651857942052864 ≤ a * b ∧ a * b ≤ 85070591730234615865843651857942052864 := prod_bound a b ha hb
  obtain ⟨Z, hZ⟩ : ∃ Z : Nat, X * Y = Z := ⟨_, rfl⟩
  have hZ2 : (X : Int) * Y = Z := by rw [← hZ]; exact (Int.natCast_mul X Y).symm
  rw [hZ2] at hsp
  obtain ⟨U, hU⟩ : ∃ U : Int, ((X * Y / 18446744073709551616 : Nat) : Int) = U := ⟨_, rfl⟩
  obtain ⟨V, hV⟩ : ∃ V : Int, ((X * Y % 18446744073709551616 : Nat) : Int) = V := ⟨_, rfl⟩
  have hU' := hU; have hV' := hV
  rw [hZ] at hU' hV'
  have g1 : IntKind.u64.wrap a = X := by rw [IntKind.wrap_u64]; omega
  have g2 : IntKind.u64.wrap b = Y := by rw [IntKind.wrap_u64]; omega
  obtain ⟨G, hG⟩ : ∃ G : Int, IntKind.i64.wrap U = G := ⟨_, rfl⟩
  have hG' := hG
  rw [IntKind.wrap_i64] at hG'
  have hN : Hid (Value.agg (nl (a * b)).toArray = .agg #[.int .i64 G, .int .u64 V]) := by
    show _ = _
    generalize a * b = M at hsp hbd ⊢
    exact nl_mk M G V (by omega) (by omega) (by omega)
  replace hU : Hid _ := hU
  replace hV : Hid _ := hV
  clear hU' hV' hZ hZ2 hsp hbd hG' hX hY
  go_enter Try.func32, Try.ntmps32
  go_wp2_with (first
    | ((with_reducible refine at_allocD 4 47 ?_); refine L_alloc 47 (nl 0) zeroN ?_; intro w1 t_ b_r; have l_r : w.heap.size ≤ w.heap.size := Nat.le_refl _; have hB : Below w.heap.size w w1 := t_.below (Below.refl _ _) (Nat.le_refl _); clear t_))
  refine (mul_l X Y U V hXl hYl hU hV w1).mono ?_
  rintro e w2 ⟨rfl, rfl⟩
  go_wp2_with (first
    | ((with_reducible refine at_storeX 4 47 ?_); refine L_store_all 47 _ _ (w.heap.size) ([.int .i64 G, .int .u64 V]) _ 47 rfl rfl b_r (szN 0) (rfl) (one_pair _ _) ?_; clear b_r; intro w2 t_ b_r; replace hB := t_.below hB l_r; clear t_))
  (try simp only [Exit.inBlock, Exit.then])
  exact bodyPost_ret (results_blk rfl _ [.int .i64 G, .int .u64 V] _ rfl b_r Try.underlying47 rfl (szN 0)) rfl ⟨by rw [hN.out], hB⟩

set_option maxRecDepth 10000 in
set_option maxHeartbeats 2000000 in
theorem times_01 (a b : Int) (w : World) (ha : In64 a) (hb : In64 b) (na : ¬ a < 0) (nb : b < 0) :
    Calls Try.prog 32 #[.int .i64 a, .int .i64 b] w fun e w' => e = .returned (.agg (nl (a * b)).toArray) ∧ Below w.heap.size w w' := by
  unfold In64 at ha hb
  obtain ⟨X, hX⟩ := Int.eq_ofNat_of_zero_le (show 0 ≤ a + 0 * 18446744073709551616 by omega)
  obtain ⟨Y, hY⟩ := Int.eq_ofNat_of_zero_le (show 0 ≤ b + 1 * 18446744073709551616 by omega)
  have hXl : X < 18446744073709551616 := by omega
  have hYl : Y < 18446744073709551616 := by omega
  have hsp := mul_split a b X Y 0 1 hX hY
  have hbd : -85070591730234615865843651857942052864 ≤ a * b ∧ a * b ≤ 85070591730234615865843651857942052864 := prod_bound a b ha hb
  obtain ⟨Z, hZ⟩ : ∃ Z : Nat, X * Y = Z := ⟨_, rfl⟩
  have hZ2 : (X : Int) * Y = Z := by rw [← hZ]; exact (Int.natCast_mul X Y).symm
  rw [hZ2] at hsp
  obtain ⟨U, hU⟩ : ∃ U : Int, ((X * Y / 18446744073709551616 : Nat) : Int) = U := ⟨_, rfl⟩
  obtain ⟨V, hV⟩ : ∃ V : Int, ((X * Y % 18446744073709551616 : Nat) : Int) = V := ⟨_, rfl⟩
  have hU' := hU; have hV' := hV
  rw [hZ] at hU' hV'
  have g1 : IntKind.u64.wrap a = X := by rw [IntKind.wrap_u64]; omega
  have g2 : IntKind.u64.wrap b = Y := by rw [IntKind.wrap_u64]; omega
  obtain ⟨U2, hU2⟩ : ∃ U2 : Int, (U - X) % 18446744073709551616 = U2 := ⟨_, rfl⟩
  have f2 : IntKind.u64.wrap (U - X) = U2 := by rw [IntKind.wrap_u64]; omega
  obtain ⟨G, hG⟩ : ∃ G : Int, IntKind.i64.wrap U2 = G := ⟨_, rfl⟩
  have hG' := hG
  rw [IntKind.wrap_i64] at hG'
  have hN : Hid (Value.agg (nl (a * b)).toArray = .agg #[.int .i64 G, .int .u64 V]) := by
    show _ = _
    generalize a * b = M at hsp hbd ⊢
    exact nl_mk M G V (by omega) (by omega) (by omega)
  replace hU : Hid _ := hU
  replace hV : Hid _ := hV
  clear hU' hV' hZ hZ2 hsp hbd hG' hU2 hX hY
  go_enter Try.func32, Try.ntmps32
  go_wp2_with (first
    | ((with_reducible refine at_allocD 4 47 ?_); refine L_alloc 47 (nl 0) zeroN ?_; intro w1 t_ b_r; have l_r : w.heap.size ≤ w.heap.size := Nat.le_refl _; have hB : Below w.heap.size w w1 := t_.below (Below.refl _ _) (Nat.le_refl _); clear t_))
  refine (mul_l X Y U V hXl hYl hU hV w1).mono ?_
  rintro e w2 ⟨rfl, rfl⟩
  go_wp2_with (first
    | ((with_reducible refine at_storeX 4 47 ?_); refine L_store_all 47 _ _ (w.heap.size) ([.int .i64 G, .int .u64 V]) _ 47 rfl rfl b_r (szN 0) (rfl) (one_pair _ _) ?_; clear b_r; intro w2 t_ b_r; replace hB := t_.below hB l_r; clear t_))
  (try simp only [Exit.inBlock, Exit.then])
  exact bodyPost_ret (results_blk rfl _ [.int .i64 G, .int .u64 V] _ rfl b_r Try.underlying47 rfl (szN 0)) rfl ⟨by rw [hN.out], hB⟩

set_option maxRecDepth 10000 in
set_option maxHeartbeats 2000000 in
theorem times_10 (a b : Int) (w : World) (ha : In64 a) (hb : In64 b) (na : a < 0) (nb : ¬ b < 0) :
    Calls Try.prog 32 #[.int .i64 a, .int .i64 b] w fun e w' => e = .returned (.agg (nl (a * b)).toArray) ∧ Below w.heap.size w w' := by
  unfold In64 at ha hb
  obtain ⟨X, hX⟩ := Int.eq_ofNat_of_zero_le (show 0 ≤ a + 1 * 18446744073709551616 by omega)
  obtain ⟨Y, hY⟩ := Int.eq_ofNat_of_zero_le (show 0 ≤ b + 0 * 18446744073709551616 by omega)
  have hXl : X < 18446744073709551616 := by omega
  have hYl : Y < 18446744073709551616 := by omega
  have hsp := mul_split a b X Y 1 0 hX hY
  have hbd : -85070591730234615865843651857942052864 ≤ a * b ∧ a * b ≤ 85070591730234615865843651857942052864 := prod_bound a b ha hb
  obtain ⟨Z, hZ⟩ : ∃ Z : Nat, X * Y = Z := ⟨_, rfl⟩
  have hZ2 : (X : Int) * Y = Z := by rw [← hZ]; exact (Int.natCast_mul X Y).symm
  rw [hZ2] at hsp
  obtain ⟨U, hU⟩ : ∃ U : Int, ((X * Y / 18446744073709551616 : Nat) : Int) = U := ⟨_, rfl⟩
  obtain ⟨V, hV⟩ : ∃ V : Int, ((X * Y % 18446744073709551616 : Nat) : Int) = V := ⟨_, rfl⟩
  have hU' := hU; have hV' := hV
  rw [hZ] at hU' hV'
  have g1 : IntKind.u64.wrap a = X := by rw [IntKind.wrap_u64]; omega
  have g2 : IntKind.u64.wrap b = Y := by rw [IntKind.wrap_u64]; omega
  obtain ⟨U1, hU1⟩ : ∃ U1 : Int, (U - Y) % 18446744073709551616 = U1 := ⟨_, rfl⟩
  have f1 : IntKind.u64.wrap (U - Y) = U1 := by rw [IntKind.wrap_u64]; omega
  obtain ⟨G, hG⟩ : ∃ G : Int, IntKind.i64.wrap U1 = G := ⟨_, rfl⟩
  have hG' := hG
  rw [IntKind.wrap_i64] at hG'
  have hN : Hid (Value.agg (nl (a * b)).toArray = .agg #[.int .i64 G, .int .u64 V]) := by
    show _ = _
    generalize a * b = M at hsp hbd ⊢
    exact nl_mk M G V (by omega) (by omega) (by omega)
  replace hU : Hid _ := hU
  replace hV : Hid _ := hV
  clear hU' hV' hZ hZ2 hsp hbd hG' hU1 hX hY
  go_enter Try.func32, Try.ntmps32
  go_wp2_with (first
    | ((with_reducible refine at_allocD 4 47 ?_); refine L_alloc 47 (nl 0) zeroN ?_; intro w1 t_ b_r; have l_r : w.heap.size ≤ w.heap.size := Nat.le_refl _; have hB : Below w.heap.size w w1 := t_.below (Below.refl _ _) (Nat.le_refl _); clear t_))
  refine (mul_l X Y U V hXl hYl hU hV w1).mono ?_
  rintro e w2 ⟨rfl, rfl⟩
  go_wp2_with (first
    | ((with_reducible refine at_storeX 4 47 ?_); refine L_store_all 47 _ _ (w.heap.size) ([.int .i64 G, .int .u64 V]) _ 47 rfl rfl b_r (szN 0) (rfl) (one_pair _ _) ?_; clear b_r; intro w2 t_ b_r; replace hB := t_.below hB l_r; clear t_))
  (try simp only [Exit.inBlock, Exit.then])
  exact bodyPost_ret (results_blk rfl _ [.int .i64 G, .int .u64 V] _ rfl b_r Try.underlying47 rfl (szN 0)) rfl ⟨by rw [hN.out], hB⟩

set_option maxRecDepth 10000 in
set_option maxHeartbeats 2000000 in
theorem times_11 (a b : Int) (w : World) (ha : In64 a) (hb : In64 b) (na : a < 0) (nb : b < 0) :
    Calls Try.prog 32 #[.int .i64 a, .int .i64 b] w fun e w' => e = .returned (.agg (nl (a * b)).toArray) ∧ Below w.heap.size w w' := by
  unfold In64 at ha hb
  obtain ⟨X, hX⟩ := Int.eq_ofNat_of_zero_le (show 0 ≤ a + 1 * 18446744073709551616 by omega)
  obtain ⟨Y, hY⟩ := Int.eq_ofNat_of_zero_le (show 0 ≤ b + 1 * 18446744073709551616 by omega)
  have hXl : X < 18446744073709551616 := by omega
  have hYl : Y < 18446744073709551616 := by omega
  have hsp := mul_split a b X Y 1 1 hX hY
  have hbd : -85070591730234615865843651857942052864 ≤ a * b ∧ a * b ≤ 85070591730234615865843651857942052864 := prod_bound a b ha hb
  obtain ⟨Z, hZ⟩ : ∃ Z : Nat, X * Y = Z := ⟨_, rfl⟩
  have hZ2 : (X : Int) * Y = Z := by rw [← hZ]; exact (Int.natCast_mul X Y).symm
  rw [hZ2] at hsp
  obtain ⟨U, hU⟩ : ∃ U : Int, ((X * Y / 18446744073709551616 : Nat) : Int) = U := ⟨_, rfl⟩
  obtain ⟨V, hV⟩ : ∃ V : Int, ((X * Y % 18446744073709551616 : Nat) : Int) = V := ⟨_, rfl⟩
  have hU' := hU; have hV' := hV
  rw [hZ] at hU' hV'
  have g1 : IntKind.u64.wrap a = X := by rw [IntKind.wrap_u64]; omega
  have g2 : IntKind.u64.wrap b = Y := by rw [IntKind.wrap_u64]; omega
  obtain ⟨U1, hU1⟩ : ∃ U1 : Int, (U - Y) % 18446744073709551616 = U1 := ⟨_, rfl⟩
  obtain ⟨U2, hU2⟩ : ∃ U2 : Int, (U1 - X) % 18446744073709551616 = U2 := ⟨_, rfl⟩
  have f1 : IntKind.u64.wrap (U - Y) = U1 := by rw [IntKind.wrap_u64]; omega
  have f2 : IntKind.u64.wrap (U1 - X) = U2 := by rw [IntKind.wrap_u64]; omega
  obtain ⟨G, hG⟩ : ∃ G : Int, IntKind.i64.wrap U2 = G := ⟨_, rfl⟩
  have hG' := hG
  rw [IntKind.wrap_i64] at hG'
  have hN : Hid (Value.agg (nl (a * b)).toArray = .agg #[.int .i64 G, .int .u64 V]) := by
    show _ = _
    generalize a * b = M at hsp hbd ⊢
    exact nl_mk M G V (by omega) (by omega) (by omega)
  replace hU : Hid _ := hU
  replace hV : Hid _ := hV
  clear hU' hV' hZ hZ2 hsp hbd hG' hU1 hU2 hX hY
  go_enter Try.func32, Try.ntmps32
  go_wp2_with (first
    | ((with_reducible refine at_allocD 4 47 ?_); refine L_alloc 47 (nl 0) zeroN ?_; intro w1 t_ b_r; have l_r : w.heap.size ≤ w.heap.size := Nat.le_refl _; have hB : Below w.heap.size w w1 := t_.below (Below.refl _ _) (Nat.le_refl _); clear t_))
  refine (mul_l X Y U V hXl hYl hU hV w1).mono ?_
  rintro e w2 ⟨rfl, rfl⟩
  go_wp2_with (first
    | ((with_reducible refine at_storeX 4 47 ?_); refine L_store_all 47 _ _ (w.heap.size) ([.int .i64 G, .int .u64 V]) _ 47 rfl rfl b_r (szN 0) (rfl) (one_pair _ _) ?_; clear b_r; intro w2 t_ b_r; replace hB := t_.below hB l_r; clear t_))
  (try simp only [Exit.inBlock, Exit.then])
  exact bodyPost_ret (results_blk rfl _ [.int .i64 G, .int .u64 V] _ rfl b_r Try.underlying47 rfl (szN 0)) rfl ⟨by rw [hN.out], hB⟩

theorem times_any (a b : Int) (w : World) (ha : In64 a) (hb : In64 b) :
    Calls Try.prog 32 #[.int .i64 a, .int .i64 b] w fun e w' => e = .returned (.agg (nl (a * b)).toArray) ∧ Below w.heap.size w w' := by
  by_cases na : a < 0 <;> by_cases nb : b < 0
  · exact times_11 a b w ha hb na nb
  · exact times_10 a b w ha hb na nb
  · exact times_01 a b w ha hb na nb
  · exact times_00 a b w ha hb na nb
end Go.Proofs.Ytcllmobjdnhmlaa
