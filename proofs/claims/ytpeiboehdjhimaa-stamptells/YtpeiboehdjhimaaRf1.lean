/- What the reference's Short answers, and its Diff; nothing that was there is changed. -/
import Derived.Test.YtpeiboehdjhimaaStG
namespace Go.Proofs.Ytpeiboehdjhimaa
open Go Go.RowKit
set_option linter.unusedVariables false
set_option maxHeartbeats 400000 in
theorem rshort_neg (n : Int) (w : World) (hn : n < 0) :
    Calls Try.prog 25 #[.int .i64 n] w fun e w' => e = .returned (.tuple #[.int .u32 0, .int .i64 3]) ∧ w' = w := by
  go_enter Try.func25, Try.ntmps25
  go_wp2
  go_ret2
  exact ⟨rfl, rfl⟩
set_option maxHeartbeats 400000 in
theorem rshort_a (n q : Int) (w : World) (hn : ¬ n < 0) (hq : n / 65536 = q) (hp : IntKind.i64.wrap (q * 65536) = n) (hs : ¬ 4294967295 < q) (hc : IntKind.u32.wrap q = q) :
    Calls Try.prog 25 #[.int .i64 n] w fun e w' => e = .returned (.tuple #[.int .u32 q, .int .i64 0]) ∧ w' = w := by
  go_enter Try.func25, Try.ntmps25
  go_wp2
  go_ret2
  exact ⟨rfl, rfl⟩
set_option maxHeartbeats 400000 in
theorem rshort_b (n q : Int) (w : World) (hn : ¬ n < 0) (hq : n / 65536 = q) (hp : IntKind.i64.wrap (q * 65536) = n) (hs : 4294967295 < q) :
    Calls Try.prog 25 #[.int .i64 n] w fun e w' => e = .returned (.tuple #[.int .u32 0, .int .i64 3]) ∧ w' = w := by
  go_enter Try.func25, Try.ntmps25
  go_wp2
  go_ret2
  exact ⟨rfl, rfl⟩
set_option maxHeartbeats 400000 in
theorem rshort_c (n q p r : Int) (w : World) (hn : ¬ n < 0) (hq : n / 65536 = q) (hp : IntKind.i64.wrap (q * 65536) = p) (hne : (p != n) = true) (hr : IntKind.i64.wrap (q + 1) = r) (hs : ¬ 4294967295 < r) (hc : IntKind.u32.wrap r = r) :
    Calls Try.prog 25 #[.int .i64 n] w fun e w' => e = .returned (.tuple #[.int .u32 r, .int .i64 0]) ∧ w' = w := by
  go_enter Try.func25, Try.ntmps25
  go_wp2
  go_ret2
  exact ⟨rfl, rfl⟩
set_option maxHeartbeats 400000 in
theorem rshort_d (n q p r : Int) (w : World) (hn : ¬ n < 0) (hq : n / 65536 = q) (hp : IntKind.i64.wrap (q * 65536) = p) (hne : (p != n) = true) (hr : IntKind.i64.wrap (q + 1) = r) (hs : 4294967295 < r) :
    Calls Try.prog 25 #[.int .i64 n] w fun e w' => e = .returned (.tuple #[.int .u32 0, .int .i64 3]) ∧ w' = w := by
  go_enter Try.func25, Try.ntmps25
  go_wp2
  go_ret2
  exact ⟨rfl, rfl⟩
theorem rshort_ok (n q : Int) (w : World) (hn : In64 n) (h0 : 0 ≤ n) (hq : Hid (sh n = q)) (hs : q ≤ 4294967295) :
    Calls Try.prog 25 #[.int .i64 n] w fun e w' => e = .returned (.tuple #[.int .u32 q, .int .i64 0]) ∧ w' = w := by
  have hq := hq.out
  unfold sh at hq
  unfold In64 at hn
  by_cases h : n % 65536 = 0
  · exact rshort_a n q w (by omega) (by omega) (by rw [IntKind.wrap_i64]; omega) (by omega) (by rw [IntKind.wrap_u32]; omega)
  · exact rshort_c n (q - 1) ((q - 1) * 65536) q w (by omega) (by omega) (by rw [IntKind.wrap_i64]; omega) (by simp; omega) (by rw [IntKind.wrap_i64]; omega) (by omega) (by rw [IntKind.wrap_u32]; omega)
theorem rshort_bad (n : Int) (w : World) (hn : In64 n) (h : n < 0 ∨ 4294967295 < sh n) :
    Calls Try.prog 25 #[.int .i64 n] w fun e w' => e = .returned (.tuple #[.int .u32 0, .int .i64 3]) ∧ w' = w := by
  by_cases h0 : n < 0
  · exact rshort_neg n w h0
  have hs : 4294967295 < sh n := h.resolve_left h0
  unfold sh at hs
  unfold In64 at hn
  by_cases h : n % 65536 = 0
  · exact rshort_b n (n / 65536) w (by omega) (by omega) (by rw [IntKind.wrap_i64]; omega) (by omega)
  · exact rshort_d n (n / 65536) (n / 65536 * 65536) (n / 65536 + 1) w (by omega) (by omega) (by rw [IntKind.wrap_i64]; omega) (by simp; omega) (by rw [IntKind.wrap_i64]; omega) (by omega)

set_option maxHeartbeats 400000 in
theorem rdiff_lo (a b D : Int) (w : World) (hD : IntKind.u64.wrap (a - b) = D) (hn : ¬ 9223372036854775808 ≤ D) (hc : IntKind.i64.wrap D = D) :
    Calls Try.prog 20 #[.int .u64 a, .int .u64 b] w fun e w' => e = .returned (.int .i64 D) ∧ w' = w := by
  go_enter Try.func20, Try.ntmps20
  go_wp2
  go_ret
  exact ⟨rfl, rfl⟩
set_option maxHeartbeats 400000 in
theorem rdiff_hi (a b D E F G H : Int) (w : World) (hD : IntKind.u64.wrap (a - b) = D) (hn : 9223372036854775808 ≤ D) (hx : bits .xor .u64 IntKind.u64.max D = E) (hc : IntKind.i64.wrap E = F) (hg : IntKind.i64.wrap (-F) = G) (hh : IntKind.i64.wrap (G - 1) = H) :
    Calls Try.prog 20 #[.int .u64 a, .int .u64 b] w fun e w' => e = .returned (.int .i64 H) ∧ w' = w := by
  have s2 : IntKind.u64.signed = false := rfl
  go_enter Try.func20, Try.ntmps20
  go_wp2
  go_ret
  exact ⟨rfl, rfl⟩
theorem rdiff_any (a b D : Int) (w : World) (hD : IntKind.i64.wrap (IntKind.u64.wrap (a - b)) = D) :
    Calls Try.prog 20 #[.int .u64 a, .int .u64 b] w fun e w' => e = .returned (.int .i64 D) ∧ w' = w := by
  subst hD
  have hu : IntKind.u64.wrap (a - b) = (a - b) % 18446744073709551616 := IntKind.wrap_u64 _
  generalize hd : (a - b) % 18446744073709551616 = d at hu
  have h0 : 0 ≤ d ∧ d < 18446744073709551616 := by omega
  rw [hu]
  by_cases hn : 9223372036854775808 ≤ d
  · have hx := not_u64 d h0.1 h0.2
    have h1 : IntKind.i64.wrap d = d - 18446744073709551616 := by rw [IntKind.wrap_i64]; omega
    rw [h1]
    exact rdiff_hi a b d _ (18446744073709551615 - d) (d - 18446744073709551615) (d - 18446744073709551616) w hu hn rfl (by rw [hx, IntKind.wrap_i64]; omega) (by rw [IntKind.wrap_i64]; omega) (by rw [IntKind.wrap_i64]; omega)
  · have h1 : IntKind.i64.wrap d = d := by rw [IntKind.wrap_i64]; omega
    rw [h1]
    exact rdiff_lo a b d w hu hn h1

end Go.Proofs.Ytpeiboehdjhimaa
