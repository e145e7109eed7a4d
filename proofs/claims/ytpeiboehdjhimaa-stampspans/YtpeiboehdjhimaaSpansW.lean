/- StampSpans: the walk. -/
import Derived.Test.YtpeiboehdjhimaaRf1
import Derived.Test.YtpeiboehdjhimaaRefPart
namespace Go.Proofs.Ytpeiboehdjhimaa.stampSpans
open Go Go.RowKit
set_option linter.unusedVariables false

set_option maxRecDepth 10000 in
set_option maxHeartbeats 4000000 in
theorem walk11 (n : Int) (s : Int) (w_n : In64 n) (w_s : 0 ≤ s ∧ s < 4294967296) (w : World) (l A m R1 L1 C Q R2 L2 t : Int) (h1 : IntKind.i64.wrap s = s) (h2 : IntKind.i64.wrap (s * 65536) = l) (i20 : In64 1000000) (i32 : In64 4294967296) (hA : Hid (n * 1000000 = A)) (hm : Hid (A / 4294967296 = m)) (hR1 : Hid (A % 4294967296 = R1)) (hL1 : Hid (m % 18446744073709551616 = L1)) (jm : In64 m) (hC : Hid (n * 4294967296 = C)) (hQ : Hid (C / 1000000 = Q)) (hR2 : Hid (C % 1000000 = R2)) (hL2 : Hid (Q % 18446744073709551616 = L2)) (jQ : In64 Q) (n0 : 0 ≤ n) (ht0 : Hid (sh n = t)) (t1 : t ≤ 4294967295) :
    Calls Try.prog 4 #[.int .i64 n, .int .u32 s] w fun e w' => e = .returned (.bool true) ∧ Below w.heap.size w w' := by
  go_enter Try.func4, Try.ntmps4
  (try simp only [List.append_eq, List.cons_append, List.nil_append])
  go_wp2_with fail
  refine (awake_any w).mono ?_
  rintro e w1 ⟨rfl, t_⟩
  have hB := t_
  clear t_
  go_wp2_with fail
  refine (short_ok n t w1 w_n n0 ht0 t1).mono ?_
  rintro e w2 ⟨rfl, hW_⟩
  rw [hW_]
  clear hW_ w2
  go_wp2_with fail
  refine (rshort_ok n t w1 w_n n0 ht0 t1).mono ?_
  rintro e w2 ⟨rfl, hW_⟩
  rw [hW_]
  clear hW_ w2
  go_wp2_with fail
  refine (rpart_ok n 1000000 4294967296 A m R1 L1 w1 w_n i20 i32 (by omega) hA hm hR1 hL1 jm).mono ?_
  rintro e w2 ⟨rfl, t_⟩
  replace hB := hB.trans (t_.mono hB.size)
  clear t_
  go_wp2_with fail
  refine (ticks_ok n C Q w2 w_n hC hQ jQ).mono ?_
  rintro e w3 ⟨rfl, t_⟩
  replace hB := hB.trans (t_.mono hB.size)
  clear t_
  go_wp2_with fail
  refine (rpart_ok n 4294967296 1000000 C Q R2 L2 w3 w_n i32 i20 (by omega) hC hQ hR2 hL2 jQ).mono ?_
  rintro e w4 ⟨rfl, t_⟩
  replace hB := hB.trans (t_.mono hB.size)
  clear t_
  go_wp2_with fail
  refine (long_any s l w4 h1 h2).mono ?_
  rintro e w5 ⟨rfl, hW_⟩
  rw [hW_]
  clear hW_ w5
  go_wp2_with fail
  refine (micros_any n A m w4 w_n hA hm).mono ?_
  rintro e w5 ⟨rfl, t_⟩
  replace hB := hB.trans (t_.mono hB.size)
  clear t_
  go_wp2_with fail
  go_ret
  exact ⟨rfl, hB⟩

set_option maxRecDepth 10000 in
set_option maxHeartbeats 4000000 in
theorem walk10 (n : Int) (s : Int) (w_n : In64 n) (w_s : 0 ≤ s ∧ s < 4294967296) (w : World) (l A m R1 L1 C Q R2 L2 t : Int) (h1 : IntKind.i64.wrap s = s) (h2 : IntKind.i64.wrap (s * 65536) = l) (i20 : In64 1000000) (i32 : In64 4294967296) (hA : Hid (n * 1000000 = A)) (hm : Hid (A / 4294967296 = m)) (hR1 : Hid (A % 4294967296 = R1)) (hL1 : Hid (m % 18446744073709551616 = L1)) (jm : In64 m) (hC : Hid (n * 4294967296 = C)) (hQ : Hid (C / 1000000 = Q)) (hR2 : Hid (C % 1000000 = R2)) (hL2 : Hid (Q % 18446744073709551616 = L2)) (jQ : ¬ In64 Q) (n0 : 0 ≤ n) (ht0 : Hid (sh n = t)) (t1 : t ≤ 4294967295) :
    Calls Try.prog 4 #[.int .i64 n, .int .u32 s] w fun e w' => e = .returned (.bool true) ∧ Below w.heap.size w w' := by
  go_enter Try.func4, Try.ntmps4
  (try simp only [List.append_eq, List.cons_append, List.nil_append])
  go_wp2_with fail
  refine (awake_any w).mono ?_
  rintro e w1 ⟨rfl, t_⟩
  have hB := t_
  clear t_
  go_wp2_with fail
  refine (short_ok n t w1 w_n n0 ht0 t1).mono ?_
  rintro e w2 ⟨rfl, hW_⟩
  rw [hW_]
  clear hW_ w2
  go_wp2_with fail
  refine (rshort_ok n t w1 w_n n0 ht0 t1).mono ?_
  rintro e w2 ⟨rfl, hW_⟩
  rw [hW_]
  clear hW_ w2
  go_wp2_with fail
  refine (rpart_ok n 1000000 4294967296 A m R1 L1 w1 w_n i20 i32 (by omega) hA hm hR1 hL1 jm).mono ?_
  rintro e w2 ⟨rfl, t_⟩
  replace hB := hB.trans (t_.mono hB.size)
  clear t_
  go_wp2_with fail
  refine (ticks_over n C Q w2 w_n hC hQ jQ).mono ?_
  rintro e w3 ⟨rfl, t_⟩
  replace hB := hB.trans (t_.mono hB.size)
  clear t_
  go_wp2_with fail
  refine (rpart_over n 4294967296 1000000 C Q R2 L2 w3 w_n i32 i20 (by omega) hC hQ hR2 hL2 jQ).mono ?_
  rintro e w4 ⟨rfl, t_⟩
  replace hB := hB.trans (t_.mono hB.size)
  clear t_
  go_wp2_with fail
  refine (long_any s l w4 h1 h2).mono ?_
  rintro e w5 ⟨rfl, hW_⟩
  rw [hW_]
  clear hW_ w5
  go_wp2_with fail
  refine (micros_any n A m w4 w_n hA hm).mono ?_
  rintro e w5 ⟨rfl, t_⟩
  replace hB := hB.trans (t_.mono hB.size)
  clear t_
  go_wp2_with fail
  go_ret
  exact ⟨rfl, hB⟩

set_option maxRecDepth 10000 in
set_option maxHeartbeats 4000000 in
theorem walk01 (n : Int) (s : Int) (w_n : In64 n) (w_s : 0 ≤ s ∧ s < 4294967296) (w : World) (l A m R1 L1 C Q R2 L2 : Int) (h1 : IntKind.i64.wrap s = s) (h2 : IntKind.i64.wrap (s * 65536) = l) (i20 : In64 1000000) (i32 : In64 4294967296) (hA : Hid (n * 1000000 = A)) (hm : Hid (A / 4294967296 = m)) (hR1 : Hid (A % 4294967296 = R1)) (hL1 : Hid (m % 18446744073709551616 = L1)) (jm : In64 m) (hC : Hid (n * 4294967296 = C)) (hQ : Hid (C / 1000000 = Q)) (hR2 : Hid (C % 1000000 = R2)) (hL2 : Hid (Q % 18446744073709551616 = L2)) (jQ : In64 Q) (hbad : n < 0 ∨ 4294967295 < sh n) :
    Calls Try.prog 4 #[.int .i64 n, .int .u32 s] w fun e w' => e = .returned (.bool true) ∧ Below w.heap.size w w' := by
  go_enter Try.func4, Try.ntmps4
  (try simp only [List.append_eq, List.cons_append, List.nil_append])
  go_wp2_with fail
  refine (awake_any w).mono ?_
  rintro e w1 ⟨rfl, t_⟩
  have hB := t_
  clear t_
  go_wp2_with fail
  refine (short_bad n w1 w_n hbad).mono ?_
  rintro e w2 ⟨rfl, hW_⟩
  rw [hW_]
  clear hW_ w2
  go_wp2_with fail
  refine (rshort_bad n w1 w_n hbad).mono ?_
  rintro e w2 ⟨rfl, hW_⟩
  rw [hW_]
  clear hW_ w2
  go_wp2_with fail
  refine (rpart_ok n 1000000 4294967296 A m R1 L1 w1 w_n i20 i32 (by omega) hA hm hR1 hL1 jm).mono ?_
  rintro e w2 ⟨rfl, t_⟩
  replace hB := hB.trans (t_.mono hB.size)
  clear t_
  go_wp2_with fail
  refine (ticks_ok n C Q w2 w_n hC hQ jQ).mono ?_
  rintro e w3 ⟨rfl, t_⟩
  replace hB := hB.trans (t_.mono hB.size)
  clear t_
  go_wp2_with fail
  refine (rpart_ok n 4294967296 1000000 C Q R2 L2 w3 w_n i32 i20 (by omega) hC hQ hR2 hL2 jQ).mono ?_
  rintro e w4 ⟨rfl, t_⟩
  replace hB := hB.trans (t_.mono hB.size)
  clear t_
  go_wp2_with fail
  refine (long_any s l w4 h1 h2).mono ?_
  rintro e w5 ⟨rfl, hW_⟩
  rw [hW_]
  clear hW_ w5
  go_wp2_with fail
  refine (micros_any n A m w4 w_n hA hm).mono ?_
  rintro e w5 ⟨rfl, t_⟩
  replace hB := hB.trans (t_.mono hB.size)
  clear t_
  go_wp2_with fail
  go_ret
  exact ⟨rfl, hB⟩

set_option maxRecDepth 10000 in
set_option maxHeartbeats 4000000 in
theorem walk00 (n : Int) (s : Int) (w_n : In64 n) (w_s : 0 ≤ s ∧ s < 4294967296) (w : World) (l A m R1 L1 C Q R2 L2 : Int) (h1 : IntKind.i64.wrap s = s) (h2 : IntKind.i64.wrap (s * 65536) = l) (i20 : In64 1000000) (i32 : In64 4294967296) (hA : Hid (n * 1000000 = A)) (hm : Hid (A / 4294967296 = m)) (hR1 : Hid (A % 4294967296 = R1)) (hL1 : Hid (m % 18446744073709551616 = L1)) (jm : In64 m) (hC : Hid (n * 4294967296 = C)) (hQ : Hid (C / 1000000 = Q)) (hR2 : Hid (C % 1000000 = R2)) (hL2 : Hid (Q % 18446744073709551616 = L2)) (jQ : ¬ In64 Q) (hbad : n < 0 ∨ 4294967295 < sh n) :
    Calls Try.prog 4 #[.int .i64 n, .int .u32 s] w fun e w' => e = .returned (.bool true) ∧ Below w.heap.size w w' := by
  go_enter Try.func4, Try.ntmps4
  (try simp only [List.append_eq, List.cons_append, List.nil_append])
  go_wp2_with fail
  refine (awake_any w).mono ?_
  rintro e w1 ⟨rfl, t_⟩
  have hB := t_
  clear t_
  go_wp2_with fail
  refine (short_bad n w1 w_n hbad).mono ?_
  rintro e w2 ⟨rfl, hW_⟩
  rw [hW_]
  clear hW_ w2
  go_wp2_with fail
  refine (rshort_bad n w1 w_n hbad).mono ?_
  rintro e w2 ⟨rfl, hW_⟩
  rw [hW_]
  clear hW_ w2
  go_wp2_with fail
  refine (rpart_ok n 1000000 4294967296 A m R1 L1 w1 w_n i20 i32 (by omega) hA hm hR1 hL1 jm).mono ?_
  rintro e w2 ⟨rfl, t_⟩
  replace hB := hB.trans (t_.mono hB.size)
  clear t_
  go_wp2_with fail
  refine (ticks_over n C Q w2 w_n hC hQ jQ).mono ?_
  rintro e w3 ⟨rfl, t_⟩
  replace hB := hB.trans (t_.mono hB.size)
  clear t_
  go_wp2_with fail
  refine (rpart_over n 4294967296 1000000 C Q R2 L2 w3 w_n i32 i20 (by omega) hC hQ hR2 hL2 jQ).mono ?_
  rintro e w4 ⟨rfl, t_⟩
  replace hB := hB.trans (t_.mono hB.size)
  clear t_
  go_wp2_with fail
  refine (long_any s l w4 h1 h2).mono ?_
  rintro e w5 ⟨rfl, hW_⟩
  rw [hW_]
  clear hW_ w5
  go_wp2_with fail
  refine (micros_any n A m w4 w_n hA hm).mono ?_
  rintro e w5 ⟨rfl, t_⟩
  replace hB := hB.trans (t_.mono hB.size)
  clear t_
  go_wp2_with fail
  go_ret
  exact ⟨rfl, hB⟩

theorem walk (n : Int) (s : Int) (w_n : In64 n) (w_s : 0 ≤ s ∧ s < 4294967296) (w : World) :
    Calls Try.prog 4 #[.int .i64 n, .int .u32 s] w fun e w' => e = .returned (.bool true) ∧ Below w.heap.size w w' := by
  have w_n' := w_n
  unfold In64 at w_n'
  have h1 : IntKind.i64.wrap s = s := by rw [IntKind.wrap_i64]; omega
  have h2 : IntKind.i64.wrap (s * 65536) = s * 65536 := by rw [IntKind.wrap_i64]; omega
  have i20 : In64 1000000 := by unfold In64; omega
  have i32 : In64 4294967296 := by unfold In64; omega
  have jm : In64 (n * 1000000 / 4294967296) := by unfold In64; omega
  by_cases hb : n < 0 ∨ 4294967295 < sh n <;> by_cases jQ : In64 (n * 4294967296 / 1000000)
  · exact walk01 n s w_n w_s w _ _ _ _ _ _ _ _ _ h1 h2 i20 i32 rfl rfl rfl rfl jm rfl rfl rfl rfl jQ hb
  · exact walk00 n s w_n w_s w _ _ _ _ _ _ _ _ _ h1 h2 i20 i32 rfl rfl rfl rfl jm rfl rfl rfl rfl jQ hb
  · exact walk11 n s w_n w_s w _ _ _ _ _ _ _ _ _ _ h1 h2 i20 i32 rfl rfl rfl rfl jm rfl rfl rfl rfl jQ (by omega) rfl (by omega)
  · exact walk10 n s w_n w_s w _ _ _ _ _ _ _ _ _ _ h1 h2 i20 i32 rfl rfl rfl rfl jm rfl rfl rfl rfl jQ (by omega) rfl (by omega)

end Go.Proofs.Ytpeiboehdjhimaa.stampSpans
