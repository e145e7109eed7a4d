/- StampShort: the walk. -/
import Derived.Test.YtpeiboehdjhimaaStG
namespace Go.Proofs.Ytpeiboehdjhimaa.stampShort
open Go Go.RowKit
set_option linter.unusedVariables false

set_option maxRecDepth 10000 in
set_option maxHeartbeats 4000000 in
theorem walk1 (n : Int) (s : Int) (w_n : In64 n) (w_s : 0 ≤ s ∧ s < 4294967296) (w : World) (l : Int) (h1 : Hid (IntKind.i64.wrap s = s)) (h2 : Hid (IntKind.i64.wrap (s * 65536) = l)) (jl : In64 l) (l0 : 0 ≤ l) (h3 : Hid (sh l = s)) (s1 : s ≤ 4294967295) (hn : n < 0) :
    Calls Try.prog 7 #[.int .i64 n, .int .u32 s] w fun e w' => e = .returned (.bool true) ∧ Below w.heap.size w w' := by
  go_enter Try.func7, Try.ntmps7
  go_wp2_with fail
  refine (awake_any w).mono ?_
  rintro e w1 ⟨rfl, t_⟩
  have hB := t_
  clear t_
  go_wp2_with fail
  refine (long_any s l w1 h1.out h2.out).mono ?_
  rintro e w2 ⟨rfl, hW_⟩
  rw [hW_]
  clear hW_ w2
  go_wp2_with fail
  refine (short_ok l s w1 jl l0 h3 s1).mono ?_
  rintro e w2 ⟨rfl, hW_⟩
  rw [hW_]
  clear hW_ w2
  go_wp2_with fail
  refine (short_bad n w1 w_n (.inl hn)).mono ?_
  rintro e w2 ⟨rfl, hW_⟩
  rw [hW_]
  clear hW_ w2
  go_wp2_with (first
    | ((with_reducible refine at_binD 40 ?_); refine L_give (by rfl) (g_ilss 2 _ _ .i64 _ _ true rfl rfl (decide_eq_true hn) ?_)))
  go_ret
  exact ⟨rfl, hB⟩

set_option maxRecDepth 10000 in
set_option maxHeartbeats 4000000 in
theorem walk2 (n : Int) (s : Int) (w_n : In64 n) (w_s : 0 ≤ s ∧ s < 4294967296) (w : World) (l : Int) (h1 : Hid (IntKind.i64.wrap s = s)) (h2 : Hid (IntKind.i64.wrap (s * 65536) = l)) (jl : In64 l) (l0 : 0 ≤ l) (h3 : Hid (sh l = s)) (s1 : s ≤ 4294967295) (hn : ¬ n < 0) (hb : Hid (4294967295 < sh n)) (hg : 281474976645120 < n) (h4 : Hid (IntKind.i64.wrap 4294967295 = 4294967295)) (h5 : Hid (IntKind.i64.wrap (4294967295 * 65536) = 281474976645120)) :
    Calls Try.prog 7 #[.int .i64 n, .int .u32 s] w fun e w' => e = .returned (.bool true) ∧ Below w.heap.size w w' := by
  go_enter Try.func7, Try.ntmps7
  go_wp2_with fail
  refine (awake_any w).mono ?_
  rintro e w1 ⟨rfl, t_⟩
  have hB := t_
  clear t_
  go_wp2_with fail
  refine (long_any s l w1 h1.out h2.out).mono ?_
  rintro e w2 ⟨rfl, hW_⟩
  rw [hW_]
  clear hW_ w2
  go_wp2_with fail
  refine (short_ok l s w1 jl l0 h3 s1).mono ?_
  rintro e w2 ⟨rfl, hW_⟩
  rw [hW_]
  clear hW_ w2
  go_wp2_with fail
  refine (short_bad n w1 w_n (.inr hb.out)).mono ?_
  rintro e w2 ⟨rfl, hW_⟩
  rw [hW_]
  clear hW_ w2
  go_wp2_with (first
    | ((with_reducible refine at_binD 40 ?_); refine L_give (by rfl) (g_ilss 2 _ _ .i64 _ _ false rfl rfl (decide_eq_false hn) ?_)))
  refine (long_any 4294967295 281474976645120 w1 h4.out h5.out).mono ?_
  rintro e w2 ⟨rfl, hW_⟩
  rw [hW_]
  clear hW_ w2
  go_wp2_with (first
    | ((with_reducible refine at_binD 44 ?_); refine L_give (by rfl) (g_igtr 2 _ _ .i64 _ _ true rfl rfl (decide_eq_true hg) ?_)))
  go_ret
  exact ⟨rfl, hB⟩

set_option maxRecDepth 10000 in
set_option maxHeartbeats 4000000 in
theorem walk3 (n : Int) (s : Int) (w_n : In64 n) (w_s : 0 ≤ s ∧ s < 4294967296) (w : World) (l : Int) (h1 : Hid (IntKind.i64.wrap s = s)) (h2 : Hid (IntKind.i64.wrap (s * 65536) = l)) (jl : In64 l) (l0 : 0 ≤ l) (h3 : Hid (sh l = s)) (s1 : s ≤ 4294967295) (t k d : Int) (n0 : 0 ≤ n) (hq : Hid (sh n = t)) (t1 : t ≤ 4294967295) (h6 : Hid (IntKind.i64.wrap t = t)) (h7 : Hid (IntKind.i64.wrap (t * 65536) = k)) (hg : n ≤ k) (hd : IntKind.i64.wrap (k - n) = d) (hd2 : d < 65536) :
    Calls Try.prog 7 #[.int .i64 n, .int .u32 s] w fun e w' => e = .returned (.bool true) ∧ Below w.heap.size w w' := by
  go_enter Try.func7, Try.ntmps7
  go_wp2_with fail
  refine (awake_any w).mono ?_
  rintro e w1 ⟨rfl, t_⟩
  have hB := t_
  clear t_
  go_wp2_with fail
  refine (long_any s l w1 h1.out h2.out).mono ?_
  rintro e w2 ⟨rfl, hW_⟩
  rw [hW_]
  clear hW_ w2
  go_wp2_with fail
  refine (short_ok l s w1 jl l0 h3 s1).mono ?_
  rintro e w2 ⟨rfl, hW_⟩
  rw [hW_]
  clear hW_ w2
  go_wp2_with fail
  refine (short_ok n t w1 w_n n0 hq t1).mono ?_
  rintro e w2 ⟨rfl, hW_⟩
  rw [hW_]
  clear hW_ w2
  go_wp2_with fail
  refine (long_any t k w1 h6.out h7.out).mono ?_
  rintro e w2 ⟨rfl, hW_⟩
  rw [hW_]
  clear hW_ w2
  go_wp2_with (first
    | ((with_reducible refine at_binD 51 ?_); refine L_give (by rfl) (g_igeq 2 _ _ .i64 _ _ true rfl rfl (decide_eq_true hg) ?_))
    | ((with_reducible refine at_binD 56 ?_); refine L_give (by rfl) (g_ilss 2 _ _ .i64 _ _ true rfl rfl (decide_eq_true hd2) ?_)))
  go_ret
  exact ⟨rfl, hB⟩

theorem walk (n : Int) (s : Int) (w_n : In64 n) (w_s : 0 ≤ s ∧ s < 4294967296) (w : World) :
    Calls Try.prog 7 #[.int .i64 n, .int .u32 s] w fun e w' => e = .returned (.bool true) ∧ Below w.heap.size w w' := by
  have w_n' := w_n
  unfold In64 at w_n'
  have h1 : IntKind.i64.wrap s = s := by rw [IntKind.wrap_i64]; omega
  have h2 : IntKind.i64.wrap (s * 65536) = s * 65536 := by rw [IntKind.wrap_i64]; omega
  have jl : In64 (s * 65536) := by unfold In64; omega
  have h3 : sh (s * 65536) = s := by unfold sh; omega
  by_cases hn : n < 0
  · exact walk1 n s w_n w_s w _ h1 h2 jl (by omega) h3 (by omega) hn
  by_cases hb : 4294967295 < sh n
  · exact walk2 n s w_n w_s w _ h1 h2 jl (by omega) h3 (by omega) hn hb (by unfold sh at hb; omega) (by show _ = _; rw [IntKind.wrap_i64]; omega) (by show _ = _; rw [IntKind.wrap_i64]; omega)
  · have hs : 0 ≤ sh n ∧ n ≤ sh n * 65536 ∧ sh n * 65536 - n < 65536 := by unfold sh; omega
    exact walk3 n s w_n w_s w _ h1 h2 jl (by omega) h3 (by omega) (sh n) (sh n * 65536) (sh n * 65536 - n) (by omega) rfl (by omega) (by show _ = _; rw [IntKind.wrap_i64]; omega) (by show _ = _; rw [IntKind.wrap_i64]; omega) hs.2.1 (by rw [IntKind.wrap_i64]; omega) hs.2.2

end Go.Proofs.Ytpeiboehdjhimaa.stampShort
