/- The law DriftGrows, walked: called with any numbers of its parameters' kinds it returns true, and nothing that was there is changed. -/
import Derived.Test.YtcllmobjdnhmlaaDrM
namespace Go.Proofs.Ytcllmobjdnhmlaa.driftGrows
open Go Go.RowKit
set_option linter.unusedVariables false

set_option maxRecDepth 10000 in
set_option maxHeartbeats 4000000 in
theorem walk1 (a : Int) (b : Int) (c : Int) (d : Int) (w_a : 0 ≤ a ∧ a < 4294967296) (w_b : 0 ≤ b ∧ b < 4294967296) (w_c : 0 ≤ c ∧ c < 4294967296) (w_d : 0 ≤ d ∧ d < 4294967296) (w : World) (A B C D s1 s2 s3 s4 mx x y z u : Int) (e1 : Hid (a.tmod 1073741824 = A)) (e2 : Hid (b.tmod 1073741824 = B)) (e3 : Hid (c.tmod 1073741824 = C)) (e4 : Hid (d.tmod 1073741824 = D)) (f1 : Hid (IntKind.i64.wrap A = A)) (f2 : Hid (IntKind.i64.wrap B = B)) (f3 : Hid (IntKind.i64.wrap C = C)) (f4 : Hid (IntKind.i64.wrap D = D)) (e5 : Hid (IntKind.i64.wrap (A + B) = s1)) (e6 : Hid (IntKind.i64.wrap (C + D) = s2)) (e7 : Hid (IntKind.i64.wrap (x + y) = s3)) (e8 : Hid (IntKind.i64.wrap (z + 1) = s4)) (e9 : Hid ((if x < y then y else x) = mx)) (jA : In64 A) (jB : In64 B) (jC : In64 C) (j1 : In64 s1) (j2 : In64 s2) (g1 : Hid (grw A C = (x, 0))) (g2 : Hid (grw B C = (y, 0))) (g3 : Hid (grw s1 C = (z, 0))) (g4 : Hid (grw A s2 = (u, 0))) (h1 : z ≤ s3) (h2 : s3 ≤ s4) (h3 : x ≤ u) (h4 : mx ≤ z) :
    Calls Try.prog 9 #[.int .u32 a, .int .u32 b, .int .u32 c, .int .u32 d] w fun e w' => e = .returned (.bool true) ∧ Below w.heap.size w w' := by
  go_enter Try.func9, Try.ntmps9
  (try simp only [List.append_eq, List.cons_append, List.nil_append])
  go_wp2_with fail
  refine (awake_any w).mono ?_
  rintro e w1 ⟨rfl, t_⟩
  have hB := t_
  clear t_
  go_wp2_with (first
    | ((with_reducible refine stop_region 4 ?_); intro X1 hX1))
  refine hX1.out ?_
  clear hX1
  refine wp_region_fixed (by kernel_rfl) (by kernel_rfl) [.int .u32 (a), .int .u32 (1073741824), .int .u32 (A), .int .i64 (A), .int .u32 (b), .int .u32 (1073741824), .int .u32 (B), .int .i64 (B), .int .u32 (c), .int .u32 (1073741824), .int .u32 (C), .int .i64 (C), .int .u32 (d), .int .u32 (1073741824), .int .u32 (D), .int .i64 (D), .int .i64 (A), .int .i64 (B), .int .i64 (C), .int .i64 (D)] (by rfl) (fun w9 => Below w1.heap.size w1 w9) (Below.refl _ _).drew ?_ ?_
  · simp only [fullL, Act.put, List.setIfInBounds_toArray, List.set_cons_succ, List.set_cons_zero]
    refine ⟨?_, ?_, ?_, ?_, ?_, ?_, ?_, ?_, ?_, ?_, ?_, ?_, ?_, ?_, ?_, ?_, ?_, ?_, ?_, ?_, trivial⟩
    · exact fun w9 hw => gw rfl (g_move _ _ rfl ⟨rfl, hw⟩)
    · exact fun w9 hw => gw rfl (g_move _ _ rfl ⟨rfl, hw⟩)
    · exact fun w9 hw => gw rfl (g_irem 38 _ _ .u32 _ 1073741824 _ rfl rfl (by decide) e1.out ⟨rfl, hw⟩)
    · exact fun w9 hw => gw rfl (g_cv32 _ _ _ rfl f1.out ⟨rfl, hw⟩)
    · exact fun w9 hw => gw rfl (g_move _ _ rfl ⟨rfl, hw⟩)
    · exact fun w9 hw => gw rfl (g_move _ _ rfl ⟨rfl, hw⟩)
    · exact fun w9 hw => gw rfl (g_irem 38 _ _ .u32 _ 1073741824 _ rfl rfl (by decide) e2.out ⟨rfl, hw⟩)
    · exact fun w9 hw => gw rfl (g_cv32 _ _ _ rfl f2.out ⟨rfl, hw⟩)
    · exact fun w9 hw => gw rfl (g_move _ _ rfl ⟨rfl, hw⟩)
    · exact fun w9 hw => gw rfl (g_move _ _ rfl ⟨rfl, hw⟩)
    · exact fun w9 hw => gw rfl (g_irem 38 _ _ .u32 _ 1073741824 _ rfl rfl (by decide) e3.out ⟨rfl, hw⟩)
    · exact fun w9 hw => gw rfl (g_cv32 _ _ _ rfl f3.out ⟨rfl, hw⟩)
    · exact fun w9 hw => gw rfl (g_move _ _ rfl ⟨rfl, hw⟩)
    · exact fun w9 hw => gw rfl (g_move _ _ rfl ⟨rfl, hw⟩)
    · exact fun w9 hw => gw rfl (g_irem 38 _ _ .u32 _ 1073741824 _ rfl rfl (by decide) e4.out ⟨rfl, hw⟩)
    · exact fun w9 hw => gw rfl (g_cv32 _ _ _ rfl f4.out ⟨rfl, hw⟩)
    · exact fun w9 hw => gw rfl (g_assign _ _ rfl ⟨rfl, hw⟩)
    · exact fun w9 hw => gw rfl (g_assign _ _ rfl ⟨rfl, hw⟩)
    · exact fun w9 hw => gw rfl (g_assign _ _ rfl ⟨rfl, hw⟩)
    · exact fun w9 hw => gw rfl (g_assign _ _ rfl ⟨rfl, hw⟩)
  simp only [fullL, Act.put, List.setIfInBounds_toArray, List.set_cons_succ, List.set_cons_zero]
  intro w2 hw
  replace hB := hB.trans (hw.mono hB.size)
  clear hw
  go_wp2_with fail
  refine (grown_any A C x 0 w2 jA jC g1).mono ?_
  rintro e w3 ⟨rfl, t_⟩
  replace hB := hB.trans (t_.mono hB.size)
  clear t_
  go_wp2_with fail
  refine (grown_any B C y 0 w3 jB jC g2).mono ?_
  rintro e w4 ⟨rfl, t_⟩
  replace hB := hB.trans (t_.mono hB.size)
  clear t_
  go_wp2_with (first
    | ((with_reducible refine at_binD 55 ?_); refine L_give (by rfl) (g_iadd 2 _ _ .i64 _ _ _ rfl rfl e5.out ?_)))
  refine (grown_any s1 C z 0 w4 j1 jC g3).mono ?_
  rintro e w5 ⟨rfl, t_⟩
  replace hB := hB.trans (t_.mono hB.size)
  clear t_
  go_wp2_with (first
    | ((with_reducible refine at_binD 64 ?_); refine L_give (by rfl) (g_iadd 2 _ _ .i64 _ _ _ rfl rfl e6.out ?_)))
  refine (grown_any A s2 u 0 w5 jA j2 g4).mono ?_
  rintro e w6 ⟨rfl, t_⟩
  replace hB := hB.trans (t_.mono hB.size)
  clear t_
  go_wp2_with (first
    | ((with_reducible refine at_binD 86 ?_); refine L_give (by rfl) (g_iadd 2 _ _ .i64 _ _ _ rfl rfl e7.out ?_))
    | ((with_reducible refine at_binD 87 ?_); refine L_give (by rfl) (g_ileq 2 _ _ .i64 _ _ true rfl rfl (decide_eq_true h1) ?_))
    | ((with_reducible refine at_binD 92 ?_); refine L_give (by rfl) (g_iadd 2 _ _ .i64 _ _ _ rfl rfl e7.out ?_))
    | ((with_reducible refine at_binD 94 ?_); refine L_give (by rfl) (g_iadd 2 _ _ .i64 _ _ _ rfl rfl e8.out ?_))
    | ((with_reducible refine at_binD 95 ?_); refine L_give (by rfl) (g_ileq 2 _ _ .i64 _ _ true rfl rfl (decide_eq_true h2) ?_))
    | ((with_reducible refine at_binD 100 ?_); refine L_give (by rfl) (g_igeq 2 _ _ .i64 _ _ true rfl rfl (decide_eq_true h3) ?_))
    | ((with_reducible refine at_callDG 106 ?_); refine L_give (by rfl) (g_max _ _ _ _ _ rfl rfl e9.out ?_))
    | ((with_reducible refine at_binD 107 ?_); refine L_give (by rfl) (g_igeq 2 _ _ .i64 _ _ true rfl rfl (decide_eq_true h4) ?_)))
  go_ret
  exact ⟨rfl, hB⟩

theorem tmod_30 (n : Int) (h : 0 ≤ n) : 0 ≤ n.tmod 1073741824 ∧ n.tmod 1073741824 < 1073741824 :=
  ⟨Int.tmod_nonneg _ h, Int.tmod_lt_of_pos n (by omega)⟩
theorem prod_30 (n q : Int) (h0 : 0 ≤ n) (h1 : n < 2147483648) (h2 : 0 ≤ q) (h3 : q < 2147483648) : 0 ≤ n * q ∧ n * q ≤ 4611686018427387904 := by
  have a1 := Int.mul_nonneg h0 h2
  have a2 := Int.mul_le_mul_of_nonneg_left (show q ≤ 2147483648 by omega) h0
  omega
theorem walk (a : Int) (b : Int) (c : Int) (d : Int) (w_a : 0 ≤ a ∧ a < 4294967296) (w_b : 0 ≤ b ∧ b < 4294967296) (w_c : 0 ≤ c ∧ c < 4294967296) (w_d : 0 ≤ d ∧ d < 4294967296) (w : World) :
    Calls Try.prog 9 #[.int .u32 a, .int .u32 b, .int .u32 c, .int .u32 d] w fun e w' => e = .returned (.bool true) ∧ Below w.heap.size w w' := by
  have hA := tmod_30 a w_a.1
  have hB := tmod_30 b w_b.1
  have hC := tmod_30 c w_c.1
  have hD := tmod_30 d w_d.1
  generalize e1 : a.tmod 1073741824 = A at hA
  generalize e2 : b.tmod 1073741824 = B at hB
  generalize e3 : c.tmod 1073741824 = C at hC
  generalize e4 : d.tmod 1073741824 = D at hD
  have p1 := prod_30 A C (by omega) (by omega) (by omega) (by omega)
  have p2 := prod_30 B C (by omega) (by omega) (by omega) (by omega)
  have p3 := prod_30 (A + B) C (by omega) (by omega) (by omega) (by omega)
  have p4 := prod_30 A (C + D) (by omega) (by omega) (by omega) (by omega)
  have p5 := prod_30 A D (by omega) (by omega) (by omega) (by omega)
  have q1 : (A + B) * C = A * C + B * C := Int.add_mul A B C
  have q2 : A * (C + D) = A * C + A * D := Int.mul_add A C D
  obtain ⟨mx, hmx⟩ : ∃ mx, (if (A * C + 999999999) / 1000000000 < (B * C + 999999999) / 1000000000 then (B * C + 999999999) / 1000000000 else (A * C + 999999999) / 1000000000) = mx := ⟨_, rfl⟩
  have hm2 : mx = (A * C + 999999999) / 1000000000 ∨ mx = (B * C + 999999999) / 1000000000 := by
    rw [← hmx]; split
    · exact .inr rfl
    · exact .inl rfl
  have g1 := grw_ok A C _ (by omega) (by omega) rfl (by unfold In64; omega)
  have g2 := grw_ok B C _ (by omega) (by omega) rfl (by unfold In64; omega)
  have g3 := grw_ok (A + B) C _ (by omega) (by omega) rfl (by unfold In64; omega)
  have g4 := grw_ok A (C + D) _ (by omega) (by omega) rfl (by unfold In64; omega)
  exact walk1 a b c d w_a w_b w_c w_d w A B C D _ _ _ _ mx _ _ _ _ e1 e2 e3 e4 (w64 _ (by unfold In64; omega)) (w64 _ (by unfold In64; omega)) (w64 _ (by unfold In64; omega)) (w64 _ (by unfold In64; omega)) (w64 _ (by unfold In64; omega)) (w64 _ (by unfold In64; omega)) (w64 _ (by unfold In64; omega)) (w64 _ (by unfold In64; omega)) hmx (by unfold In64; omega) (by unfold In64; omega) (by unfold In64; omega) (by unfold In64; omega) (by unfold In64; omega) g1 g2 g3 g4 (by omega) (by omega) (by omega) (by rcases hm2 with h | h <;> omega)

end Go.Proofs.Ytcllmobjdnhmlaa.driftGrows
