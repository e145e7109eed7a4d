/- StampAdds: the walk. -/
import Derived.Test.YtpeiboehdjhimaaStG
namespace Go.Proofs.Ytpeiboehdjhimaa.stampAdds
open Go Go.RowKit
set_option linter.unusedVariables false

set_option maxRecDepth 10000 in
set_option maxHeartbeats 4000000 in
theorem walk1 (a : Int) (b : Int) (n : Int) (w_a : 0 ≤ a ∧ a < 18446744073709551616) (w_b : 0 ≤ b ∧ b < 18446744073709551616) (w_n : In64 n) (w : World) (R D E : Int) (h1 : Hid (IntKind.u64.wrap (a + IntKind.u64.wrap n) = R)) (h2 : Hid (IntKind.i64.wrap (IntKind.u64.wrap (R - a)) = n)) (h3 : Hid (IntKind.i64.wrap (IntKind.u64.wrap (a - b)) = D)) (h4 : Hid (IntKind.u64.wrap (b + IntKind.u64.wrap D) = a)) (h5 : Hid (IntKind.i64.wrap (IntKind.u64.wrap (b - a)) = E)) (h6 : IntKind.i64.wrap (-E) = D) (h7 : Hid (IntKind.i64.wrap (IntKind.u64.wrap (a - a)) = 0)) :
    Calls Try.prog 5 #[.int .u64 a, .int .u64 b, .int .i64 n] w fun e w' => e = .returned (.bool true) ∧ Below w.heap.size w w' := by
  go_enter Try.func5, Try.ntmps5
  (try simp only [List.append_eq, List.cons_append, List.nil_append])
  go_wp2_with fail
  refine (awake_any w).mono ?_
  rintro e w1 ⟨rfl, t_⟩
  have hB := t_
  clear t_
  go_wp2_with fail
  refine (sadd_any a n R w1 h1.out).mono ?_
  rintro e w2 ⟨rfl, hW_⟩
  rw [hW_]
  clear hW_ w2
  go_wp2_with fail
  refine (diff_any R a n w1 h2.out).mono ?_
  rintro e w2 ⟨rfl, hW_⟩
  rw [hW_]
  clear hW_ w2
  go_wp2_with fail
  refine (diff_any a b D w1 h3.out).mono ?_
  rintro e w2 ⟨rfl, hW_⟩
  rw [hW_]
  clear hW_ w2
  go_wp2_with fail
  refine (sadd_any b D a w1 h4.out).mono ?_
  rintro e w2 ⟨rfl, hW_⟩
  rw [hW_]
  clear hW_ w2
  go_wp2_with fail
  refine (diff_any a b D w1 h3.out).mono ?_
  rintro e w2 ⟨rfl, hW_⟩
  rw [hW_]
  clear hW_ w2
  go_wp2_with fail
  refine (diff_any b a E w1 h5.out).mono ?_
  rintro e w2 ⟨rfl, hW_⟩
  rw [hW_]
  clear hW_ w2
  go_wp2_with fail
  refine (diff_any a a 0 w1 h7.out).mono ?_
  rintro e w2 ⟨rfl, hW_⟩
  rw [hW_]
  clear hW_ w2
  go_wp2_with fail
  go_ret
  exact ⟨rfl, hB⟩

theorem walk (a : Int) (b : Int) (n : Int) (w_a : 0 ≤ a ∧ a < 18446744073709551616) (w_b : 0 ≤ b ∧ b < 18446744073709551616) (w_n : In64 n) (w : World) :
    Calls Try.prog 5 #[.int .u64 a, .int .u64 b, .int .i64 n] w fun e w' => e = .returned (.bool true) ∧ Below w.heap.size w w' := by
  have w_n' := w_n
  unfold In64 at w_n'
  refine walk1 a b n w_a w_b w_n w ((a + n) % 18446744073709551616) (IntKind.i64.wrap (IntKind.u64.wrap (a - b))) (IntKind.i64.wrap (IntKind.u64.wrap (b - a))) ?_ ?_ rfl ?_ rfl ?_ ?_
  all_goals (try show _ = _); simp only [IntKind.wrap_i64, IntKind.wrap_u64]; omega

end Go.Proofs.Ytpeiboehdjhimaa.stampAdds
