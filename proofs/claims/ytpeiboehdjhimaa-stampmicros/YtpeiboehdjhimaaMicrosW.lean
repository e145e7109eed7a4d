/- StampMicros: the walk. -/
import Derived.Test.YtpeiboehdjhimaaStG
namespace Go.Proofs.Ytpeiboehdjhimaa.stampMicros
open Go Go.RowKit
set_option linter.unusedVariables false

set_option maxRecDepth 10000 in
set_option maxHeartbeats 4000000 in
theorem walk1 (n : Int) (w_n : In64 n) (w : World) (k A Q B m C x D u d : Int) (hk : n.tmod 1125899906842624 = k) (jk : In64 k) (jQ : In64 Q) (jx : In64 x) (ju : In64 u) (hA : Hid (k * 4294967296 = A)) (hQ : Hid (A / 1000000 = Q)) (hB1 : Hid (Q * 1000000 = B)) (hm : Hid (B / 4294967296 = m)) (hC : Hid (k * 1000000 = C)) (hx : Hid (C / 4294967296 = x)) (hD : Hid (x * 4294967296 = D)) (hu : Hid (D / 1000000 = u))
    (hd : IntKind.i64.wrap (k - m) = d) (m1 : m ≤ k) (m2 : d ≤ 1) (m3 : u ≤ k) :
    Calls Try.prog 8 #[.int .i64 n] w fun e w' => e = .returned (.bool true) ∧ Below w.heap.size w w' := by
  go_enter Try.func8, Try.ntmps8
  go_wp2_with fail
  refine (awake_any w).mono ?_
  rintro e w1 ⟨rfl, t_⟩
  have hB := t_
  clear t_
  go_wp2_with fail
  refine (ticks_ok k A Q w1 jk hA hQ jQ).mono ?_
  rintro e w2 ⟨rfl, t_⟩
  replace hB := hB.trans (t_.mono hB.size)
  clear t_
  go_wp2_with fail
  refine (micros_any Q B m w2 jQ hB1 hm).mono ?_
  rintro e w3 ⟨rfl, t_⟩
  replace hB := hB.trans (t_.mono hB.size)
  clear t_
  go_wp2_with fail
  refine (micros_any k C x w3 jk hC hx).mono ?_
  rintro e w4 ⟨rfl, t_⟩
  replace hB := hB.trans (t_.mono hB.size)
  clear t_
  go_wp2_with fail
  refine (ticks_ok x D u w4 jx hD hu ju).mono ?_
  rintro e w5 ⟨rfl, t_⟩
  replace hB := hB.trans (t_.mono hB.size)
  clear t_
  go_wp2_with (first
    | ((with_reducible refine at_binD 34 ?_); refine L_give (by rfl) (g_ileq 2 _ _ .i64 _ _ true rfl rfl (decide_eq_true m1) ?_))
    | ((with_reducible refine at_binD 40 ?_); refine L_give (by rfl) (g_ileq 2 _ _ .i64 _ _ true rfl rfl (decide_eq_true m2) ?_))
    | ((with_reducible refine at_binD 45 ?_); refine L_give (by rfl) (g_ileq 2 _ _ .i64 _ _ true rfl rfl (decide_eq_true m3) ?_)))
  go_ret
  exact ⟨rfl, hB⟩

theorem tmod_lt (n : Int) (h : In64 n) : -1125899906842624 < n.tmod 1125899906842624 ∧ n.tmod 1125899906842624 < 1125899906842624 := by
  have h1 := Int.tmod_lt_of_pos n (show (0 : Int) < 1125899906842624 by omega)
  have h2 := Int.lt_tmod_of_pos n (show (0 : Int) < 1125899906842624 by omega)
  omega
theorem walk (n : Int) (w_n : In64 n) (w : World) :
    Calls Try.prog 8 #[.int .i64 n] w fun e w' => e = .returned (.bool true) ∧ Below w.heap.size w w' := by
  have hk := tmod_lt n w_n
  generalize e : n.tmod 1125899906842624 = k at hk
  refine walk1 n w_n w k _ _ _ _ _ _ _ _ (k - k * 4294967296 / 1000000 * 1000000 / 4294967296) e ?_ ?_ ?_ ?_ rfl rfl rfl rfl rfl rfl rfl rfl ?_ ?_ ?_ ?_
  all_goals (try unfold In64); (try simp only [IntKind.wrap_i64]); omega

end Go.Proofs.Ytpeiboehdjhimaa.stampMicros
