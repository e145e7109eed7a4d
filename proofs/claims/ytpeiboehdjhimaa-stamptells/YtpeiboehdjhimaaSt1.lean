/- What the program's stamp.Diff, Add, Fold, Long, Short and view.way answer; nothing that was there is changed. -/
import Derived.Test.YtpeiboehdjhimaaWide6
namespace Go.Proofs.Ytpeiboehdjhimaa
open Go Go.RowKit
set_option linter.unusedVariables false
/-- A view as the program's structure. -/
def vl (a : Int) : List Value := [.int .u64 a]
theorem szV (a : Int) : (Try.prog.info? 63).map (·.size) = some (vl a).length := by
  have h : (Try.prog.info? 63).map (·.size) = some 1 := by kernel_rfl
  exact h
theorem one_vl (a : Int) : ∀ v ∈ vl a, v.oneCell' = true := by
  intro v hv
  simp only [vl, List.mem_cons, List.not_mem_nil, or_false] at hv
  subst hv; rfl
theorem zeroV : ∀ w, (zeroValue 63).run Try.prog w = .ok (.agg (vl 0).toArray) w := by
  intro w; kernel_rfl
set_option maxHeartbeats 400000 in
theorem diff_any (a b D : Int) (w : World) (hD : IntKind.i64.wrap (IntKind.u64.wrap (a - b)) = D) :
    Calls Try.prog 19 #[.int .u64 a, .int .u64 b] w fun e w' => e = .returned (.int .i64 D) ∧ w' = w := by
  go_enter Try.func19, Try.ntmps19
  go_wp2
  go_ret
  exact ⟨rfl, rfl⟩
set_option maxHeartbeats 400000 in
theorem sadd_any (a s R : Int) (w : World) (hR : IntKind.u64.wrap (a + IntKind.u64.wrap s) = R) :
    Calls Try.prog 21 #[.int .u64 a, .int .i64 s] w fun e w' => e = .returned (.int .u64 R) ∧ w' = w := by
  go_enter Try.func21, Try.ntmps21
  go_wp2
  go_ret
  exact ⟨rfl, rfl⟩
set_option maxHeartbeats 400000 in
theorem fold_any (z L : Int) (w : World) (hL : z % 18446744073709551616 = L) :
    Calls Try.prog 22 #[.agg (nl z).toArray] w fun e w' => e = .returned (.int .u64 L) ∧ Below w.heap.size w w' := by
  obtain ⟨h, hh⟩ : ∃ h, z / 18446744073709551616 = h := ⟨_, rfl⟩
  rw [nl_eq z h L hh hL]; clear hh hL
  go_enter Try.func22, Try.ntmps22
  go_wp2
  go_ret
  exact ⟨rfl, (Below.refl _ _).alloc (Nat.le_refl _) _⟩
set_option maxHeartbeats 400000 in
theorem long_any (s R : Int) (w : World) (h1 : IntKind.i64.wrap s = s) (hR : IntKind.i64.wrap (s * 65536) = R) :
    Calls Try.prog 28 #[.int .u32 s] w fun e w' => e = .returned (.int .i64 R) ∧ w' = w := by
  go_enter Try.func28, Try.ntmps28
  go_wp2
  go_ret
  exact ⟨rfl, rfl⟩
set_option maxHeartbeats 400000 in
theorem short_neg (n : Int) (w : World) (hn : n < 0) :
    Calls Try.prog 24 #[.int .i64 n] w fun e w' => e = .returned (.tuple #[.int .u32 0, .int .i64 3]) ∧ w' = w := by
  go_enter Try.func24, Try.ntmps24
  go_wp2
  go_ret2
  exact ⟨rfl, rfl⟩
set_option maxHeartbeats 400000 in
theorem short_a (n q : Int) (w : World) (hn : ¬ n < 0) (hq : n / 65536 = q) (hp : IntKind.i64.wrap (q * 65536) = n) (hs : ¬ 4294967295 < q) (hc : IntKind.u32.wrap q = q) :
    Calls Try.prog 24 #[.int .i64 n] w fun e w' => e = .returned (.tuple #[.int .u32 q, .int .i64 0]) ∧ w' = w := by
  go_enter Try.func24, Try.ntmps24
  go_wp2
  go_ret2
  exact ⟨rfl, rfl⟩
set_option maxHeartbeats 400000 in
theorem short_b (n q : Int) (w : World) (hn : ¬ n < 0) (hq : n / 65536 = q) (hp : IntKind.i64.wrap (q * 65536) = n) (hs : 4294967295 < q) :
    Calls Try.prog 24 #[.int .i64 n] w fun e w' => e = .returned (.tuple #[.int .u32 0, .int .i64 3]) ∧ w' = w := by
  go_enter Try.func24, Try.ntmps24
  go_wp2
  go_ret2
  exact ⟨rfl, rfl⟩
set_option maxHeartbeats 400000 in
theorem short_c (n q p r : Int) (w : World) (hn : ¬ n < 0) (hq : n / 65536 = q) (hp : IntKind.i64.wrap (q * 65536) = p) (hne : (p != n) = true) (hr : IntKind.i64.wrap (q + 1) = r) (hs : ¬ 4294967295 < r) (hc : IntKind.u32.wrap r = r) :
    Calls Try.prog 24 #[.int .i64 n] w fun e w' => e = .returned (.tuple #[.int .u32 r, .int .i64 0]) ∧ w' = w := by
  go_enter Try.func24, Try.ntmps24
  go_wp2
  go_ret2
  exact ⟨rfl, rfl⟩
set_option maxHeartbeats 400000 in
theorem short_d (n q p r : Int) (w : World) (hn : ¬ n < 0) (hq : n / 65536 = q) (hp : IntKind.i64.wrap (q * 65536) = p) (hne : (p != n) = true) (hr : IntKind.i64.wrap (q + 1) = r) (hs : 4294967295 < r) :
    Calls Try.prog 24 #[.int .i64 n] w fun e w' => e = .returned (.tuple #[.int .u32 0, .int .i64 3]) ∧ w' = w := by
  go_enter Try.func24, Try.ntmps24
  go_wp2
  go_ret2
  exact ⟨rfl, rfl⟩
/-- A span told shortly: its number, rounded up. -/
def sh (n : Int) : Int := (n + 65535) / 65536
theorem short_ok (n q : Int) (w : World) (hn : In64 n) (h0 : 0 ≤ n) (hq : Hid (sh n = q)) (hs : q ≤ 4294967295) :
    Calls Try.prog 24 #[.int .i64 n] w fun e w' => e = .returned (.tuple #[.int .u32 q, .int .i64 0]) ∧ w' = w := by
  have hq := hq.out
  unfold sh at hq
  unfold In64 at hn
  by_cases h : n % 65536 = 0
  · exact short_a n q w (by omega) (by omega) (by rw [IntKind.wrap_i64]; omega) (by omega) (by rw [IntKind.wrap_u32]; omega)
  · exact short_c n (q - 1) ((q - 1) * 65536) q w (by omega) (by omega) (by rw [IntKind.wrap_i64]; omega) (by simp; omega) (by rw [IntKind.wrap_i64]; omega) (by omega) (by rw [IntKind.wrap_u32]; omega)
theorem short_bad (n : Int) (w : World) (hn : In64 n) (h : n < 0 ∨ 4294967295 < sh n) :
    Calls Try.prog 24 #[.int .i64 n] w fun e w' => e = .returned (.tuple #[.int .u32 0, .int .i64 3]) ∧ w' = w := by
  by_cases h0 : n < 0
  · exact short_neg n w h0
  have hs : 4294967295 < sh n := h.resolve_left h0
  unfold sh at hs
  unfold In64 at hn
  by_cases h : n % 65536 = 0
  · exact short_b n (n / 65536) w (by omega) (by omega) (by rw [IntKind.wrap_i64]; omega) (by omega)
  · exact short_d n (n / 65536) (n / 65536 * 65536) (n / 65536 + 1) w (by omega) (by omega) (by rw [IntKind.wrap_i64]; omega) (by simp; omega) (by rw [IntKind.wrap_i64]; omega) (by omega)
set_option maxHeartbeats 400000 in
theorem way_any (a k z : Int) (w : World) (ha : 0 ≤ a) (ha2 : a < 18446744073709551616) (hz : Hid (k * 18446744073709551616 + a = z)) :
    Calls Try.prog 35 #[.agg (vl a).toArray, .int .i64 k] w fun e w' => e = .returned (.agg (nl z).toArray) ∧ Below w.heap.size w w' := by
  have hz := hz.out
  rw [nl_eq z k a (by omega) (by omega)]
  clear hz ha ha2
  show Calls Try.prog 35 #[.agg #[.int .u64 a], .int .i64 k] w _
  go_enter Try.func35, Try.ntmps35
  go_wp2
  exact bodyPost_ret (results_blk rfl (w.heap.size + 1) [.int .i64 k, .int .u64 a] _ rfl (by simpa using (turn_alloc (w.alloc (.cells #[.int .u64 a] 63)) _ 25).2) Try.underlying25 rfl rfl) rfl ⟨rfl, ((Below.refl _ _).alloc (Nat.le_refl _) _).alloc (by simp) _⟩
end Go.Proofs.Ytpeiboehdjhimaa
