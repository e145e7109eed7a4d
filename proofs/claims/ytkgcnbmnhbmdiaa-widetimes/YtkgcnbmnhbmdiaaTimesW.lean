/- WideTimes: the walk. -/
import Derived.Test.YtkgcnbmnhbmdiaaWide6
import Derived.Test.YtkgcnbmnhbmdiaaRefPart
namespace Go.Proofs.Ytkgcnbmnhbmdiaa.wideTimes
open Go Go.RowKit
set_option linter.unusedVariables false

set_option maxRecDepth 10000 in
set_option maxHeartbeats 4000000 in
theorem walk_bad (a : Int) (b : Int) (n : Int) (w_a : In64 a) (w_b : In64 b) (w_n : In64 n) (w : World) (M : Int) (hM : Hid (a * b = M)) (hn : n < 1) :
    Calls Try.prog 4 #[.int .i64 a, .int .i64 b, .int .i64 n] w fun e w' => e = .returned (.bool true) ∧ Below w.heap.size w w' := by
  have hI := prod_in a b M hM w_a w_b
  have fa : Few a 200 := few128 _ (by have h := w_a; unfold In64 at h; omega)
  have fb : Few b 200 := few128 _ (by have h := w_b; unfold In64 at h; omega)
  have fM : Few M 200 := few128 _ (by have h := hI.out; unfold In128 at h; omega)
  go_enter Try.func4, Try.ntmps4
  go_wp2_with fail
  refine (awake_any w).mono ?_
  rintro e w1 ⟨rfl, t_⟩
  have hB := t_
  clear t_
  go_wp2_with fail
  refine (part_bad a b n M hM w1 w_a w_b hn).mono ?_
  rintro e w2 ⟨rfl, t_⟩
  replace hB := hB.trans (t_.mono hB.size)
  clear t_
  go_wp2_with fail
  refine (rpart_bad a b n w2 hn).mono ?_
  rintro e w3 ⟨rfl, t_⟩
  replace hB := hB.trans (t_.mono hB.size)
  clear t_
  go_wp2_with fail
  refine (times_l a b M hM w3 w_a w_b).mono ?_
  rintro e w4 ⟨rfl, t_⟩
  replace hB := hB.trans (t_.mono hB.size)
  clear t_
  go_wp2_with fail
  refine (rof_any a w4 w_a).mono ?_
  rintro e w5 ⟨_, rfl, ⟨s_n31, v_n31, rfl, r_n31⟩, t_⟩
  replace hB := hB.trans (t_.mono hB.size)
  clear t_
  go_wp2_with fail
  refine (rof_any b w5 w_b).mono ?_
  rintro e w6 ⟨_, rfl, ⟨s_n33, v_n33, rfl, r_n33⟩, t_⟩
  replace r_n31 := r_n31.below t_
  replace hB := hB.trans (t_.mono hB.size)
  clear t_
  go_wp2_with fail
  refine (rtimes_any _ _ a b M w6 ⟨_, _, rfl, r_n31⟩ ⟨_, _, rfl, r_n33⟩ fa fb hM).mono ?_
  rintro e w7 ⟨_, rfl, ⟨s_n34, v_n34, rfl, r_n34⟩, t_⟩
  replace r_n31 := r_n31.below t_
  replace r_n33 := r_n33.below t_
  replace hB := hB.trans (t_.mono hB.size)
  clear t_
  go_wp2_with fail
  refine (same_ok _ M w7 ⟨_, _, rfl, r_n34⟩ fM hI.out).mono ?_
  rintro e w8 ⟨rfl, t_⟩
  replace r_n31 := r_n31.below t_
  replace r_n33 := r_n33.below t_
  replace r_n34 := r_n34.below t_
  replace hB := hB.trans (t_.mono hB.size)
  clear t_
  go_wp2_with fail
  refine (of_any a w8 w_a).mono ?_
  rintro e w9 ⟨rfl, t_⟩
  replace r_n31 := r_n31.below t_
  replace r_n33 := r_n33.below t_
  replace r_n34 := r_n34.below t_
  replace hB := hB.trans (t_.mono hB.size)
  clear t_
  go_wp2_with fail
  refine (rof_any a w9 w_a).mono ?_
  rintro e w10 ⟨_, rfl, ⟨s_n50, v_n50, rfl, r_n50⟩, t_⟩
  replace r_n31 := r_n31.below t_
  replace r_n33 := r_n33.below t_
  replace r_n34 := r_n34.below t_
  replace hB := hB.trans (t_.mono hB.size)
  clear t_
  go_wp2_with fail
  refine (same_ok _ a w10 ⟨_, _, rfl, r_n50⟩ fa (In64.to a w_a)).mono ?_
  rintro e w11 ⟨rfl, t_⟩
  replace r_n31 := r_n31.below t_
  replace r_n33 := r_n33.below t_
  replace r_n34 := r_n34.below t_
  replace r_n50 := r_n50.below t_
  replace hB := hB.trans (t_.mono hB.size)
  clear t_
  go_wp2_with fail
  go_ret
  exact ⟨rfl, hB⟩

set_option maxRecDepth 10000 in
set_option maxHeartbeats 4000000 in
theorem walk_ok (a : Int) (b : Int) (n : Int) (w_a : In64 a) (w_b : In64 b) (w_n : In64 n) (w : World) (M Q R L : Int) (hM : Hid (a * b = M)) (hQ : Hid (M / n = Q)) (hR : Hid (M % n = R)) (hL : Hid (Q % 18446744073709551616 = L)) (h0 : 1 ≤ n) (hq : In64 Q) :
    Calls Try.prog 4 #[.int .i64 a, .int .i64 b, .int .i64 n] w fun e w' => e = .returned (.bool true) ∧ Below w.heap.size w w' := by
  have hI := prod_in a b M hM w_a w_b
  have fa : Few a 200 := few128 _ (by have h := w_a; unfold In64 at h; omega)
  have fb : Few b 200 := few128 _ (by have h := w_b; unfold In64 at h; omega)
  have fM : Few M 200 := few128 _ (by have h := hI.out; unfold In128 at h; omega)
  go_enter Try.func4, Try.ntmps4
  go_wp2_with fail
  refine (awake_any w).mono ?_
  rintro e w1 ⟨rfl, t_⟩
  have hB := t_
  clear t_
  go_wp2_with fail
  refine (part_ok a b n M Q hM w1 w_a w_b h0 w_n.2 hQ hq).mono ?_
  rintro e w2 ⟨rfl, t_⟩
  replace hB := hB.trans (t_.mono hB.size)
  clear t_
  go_wp2_with fail
  refine (rpart_ok a b n M Q R L w2 w_a w_b w_n h0 hM hQ hR hL hq).mono ?_
  rintro e w3 ⟨rfl, t_⟩
  replace hB := hB.trans (t_.mono hB.size)
  clear t_
  go_wp2_with fail
  refine (times_l a b M hM w3 w_a w_b).mono ?_
  rintro e w4 ⟨rfl, t_⟩
  replace hB := hB.trans (t_.mono hB.size)
  clear t_
  go_wp2_with fail
  refine (rof_any a w4 w_a).mono ?_
  rintro e w5 ⟨_, rfl, ⟨s_n31, v_n31, rfl, r_n31⟩, t_⟩
  replace hB := hB.trans (t_.mono hB.size)
  clear t_
  go_wp2_with fail
  refine (rof_any b w5 w_b).mono ?_
  rintro e w6 ⟨_, rfl, ⟨s_n33, v_n33, rfl, r_n33⟩, t_⟩
  replace r_n31 := r_n31.below t_
  replace hB := hB.trans (t_.mono hB.size)
  clear t_
  go_wp2_with fail
  refine (rtimes_any _ _ a b M w6 ⟨_, _, rfl, r_n31⟩ ⟨_, _, rfl, r_n33⟩ fa fb hM).mono ?_
  rintro e w7 ⟨_, rfl, ⟨s_n34, v_n34, rfl, r_n34⟩, t_⟩
  replace r_n31 := r_n31.below t_
  replace r_n33 := r_n33.below t_
  replace hB := hB.trans (t_.mono hB.size)
  clear t_
  go_wp2_with fail
  refine (same_ok _ M w7 ⟨_, _, rfl, r_n34⟩ fM hI.out).mono ?_
  rintro e w8 ⟨rfl, t_⟩
  replace r_n31 := r_n31.below t_
  replace r_n33 := r_n33.below t_
  replace r_n34 := r_n34.below t_
  replace hB := hB.trans (t_.mono hB.size)
  clear t_
  go_wp2_with fail
  refine (of_any a w8 w_a).mono ?_
  rintro e w9 ⟨rfl, t_⟩
  replace r_n31 := r_n31.below t_
  replace r_n33 := r_n33.below t_
  replace r_n34 := r_n34.below t_
  replace hB := hB.trans (t_.mono hB.size)
  clear t_
  go_wp2_with fail
  refine (rof_any a w9 w_a).mono ?_
  rintro e w10 ⟨_, rfl, ⟨s_n50, v_n50, rfl, r_n50⟩, t_⟩
  replace r_n31 := r_n31.below t_
  replace r_n33 := r_n33.below t_
  replace r_n34 := r_n34.below t_
  replace hB := hB.trans (t_.mono hB.size)
  clear t_
  go_wp2_with fail
  refine (same_ok _ a w10 ⟨_, _, rfl, r_n50⟩ fa (In64.to a w_a)).mono ?_
  rintro e w11 ⟨rfl, t_⟩
  replace r_n31 := r_n31.below t_
  replace r_n33 := r_n33.below t_
  replace r_n34 := r_n34.below t_
  replace r_n50 := r_n50.below t_
  replace hB := hB.trans (t_.mono hB.size)
  clear t_
  go_wp2_with fail
  go_ret
  exact ⟨rfl, hB⟩

set_option maxRecDepth 10000 in
set_option maxHeartbeats 4000000 in
theorem walk_over (a : Int) (b : Int) (n : Int) (w_a : In64 a) (w_b : In64 b) (w_n : In64 n) (w : World) (M Q R L : Int) (hM : Hid (a * b = M)) (hQ : Hid (M / n = Q)) (hR : Hid (M % n = R)) (hL : Hid (Q % 18446744073709551616 = L)) (h0 : 1 ≤ n) (hq : ¬ In64 Q) :
    Calls Try.prog 4 #[.int .i64 a, .int .i64 b, .int .i64 n] w fun e w' => e = .returned (.bool true) ∧ Below w.heap.size w w' := by
  have hI := prod_in a b M hM w_a w_b
  have fa : Few a 200 := few128 _ (by have h := w_a; unfold In64 at h; omega)
  have fb : Few b 200 := few128 _ (by have h := w_b; unfold In64 at h; omega)
  have fM : Few M 200 := few128 _ (by have h := hI.out; unfold In128 at h; omega)
  go_enter Try.func4, Try.ntmps4
  go_wp2_with fail
  refine (awake_any w).mono ?_
  rintro e w1 ⟨rfl, t_⟩
  have hB := t_
  clear t_
  go_wp2_with fail
  refine (part_over a b n M Q hM w1 w_a w_b h0 w_n.2 hQ hq).mono ?_
  rintro e w2 ⟨rfl, t_⟩
  replace hB := hB.trans (t_.mono hB.size)
  clear t_
  go_wp2_with fail
  refine (rpart_over a b n M Q R L w2 w_a w_b w_n h0 hM hQ hR hL hq).mono ?_
  rintro e w3 ⟨rfl, t_⟩
  replace hB := hB.trans (t_.mono hB.size)
  clear t_
  go_wp2_with fail
  refine (times_l a b M hM w3 w_a w_b).mono ?_
  rintro e w4 ⟨rfl, t_⟩
  replace hB := hB.trans (t_.mono hB.size)
  clear t_
  go_wp2_with fail
  refine (rof_any a w4 w_a).mono ?_
  rintro e w5 ⟨_, rfl, ⟨s_n31, v_n31, rfl, r_n31⟩, t_⟩
  replace hB := hB.trans (t_.mono hB.size)
  clear t_
  go_wp2_with fail
  refine (rof_any b w5 w_b).mono ?_
  rintro e w6 ⟨_, rfl, ⟨s_n33, v_n33, rfl, r_n33⟩, t_⟩
  replace r_n31 := r_n31.below t_
  replace hB := hB.trans (t_.mono hB.size)
  clear t_
  go_wp2_with fail
  refine (rtimes_any _ _ a b M w6 ⟨_, _, rfl, r_n31⟩ ⟨_, _, rfl, r_n33⟩ fa fb hM).mono ?_
  rintro e w7 ⟨_, rfl, ⟨s_n34, v_n34, rfl, r_n34⟩, t_⟩
  replace r_n31 := r_n31.below t_
  replace r_n33 := r_n33.below t_
  replace hB := hB.trans (t_.mono hB.size)
  clear t_
  go_wp2_with fail
  refine (same_ok _ M w7 ⟨_, _, rfl, r_n34⟩ fM hI.out).mono ?_
  rintro e w8 ⟨rfl, t_⟩
  replace r_n31 := r_n31.below t_
  replace r_n33 := r_n33.below t_
  replace r_n34 := r_n34.below t_
  replace hB := hB.trans (t_.mono hB.size)
  clear t_
  go_wp2_with fail
  refine (of_any a w8 w_a).mono ?_
  rintro e w9 ⟨rfl, t_⟩
  replace r_n31 := r_n31.below t_
  replace r_n33 := r_n33.below t_
  replace r_n34 := r_n34.below t_
  replace hB := hB.trans (t_.mono hB.size)
  clear t_
  go_wp2_with fail
  refine (rof_any a w9 w_a).mono ?_
  rintro e w10 ⟨_, rfl, ⟨s_n50, v_n50, rfl, r_n50⟩, t_⟩
  replace r_n31 := r_n31.below t_
  replace r_n33 := r_n33.below t_
  replace r_n34 := r_n34.below t_
  replace hB := hB.trans (t_.mono hB.size)
  clear t_
  go_wp2_with fail
  refine (same_ok _ a w10 ⟨_, _, rfl, r_n50⟩ fa (In64.to a w_a)).mono ?_
  rintro e w11 ⟨rfl, t_⟩
  replace r_n31 := r_n31.below t_
  replace r_n33 := r_n33.below t_
  replace r_n34 := r_n34.below t_
  replace r_n50 := r_n50.below t_
  replace hB := hB.trans (t_.mono hB.size)
  clear t_
  go_wp2_with fail
  go_ret
  exact ⟨rfl, hB⟩

theorem walk (a : Int) (b : Int) (n : Int) (w_a : In64 a) (w_b : In64 b) (w_n : In64 n) (w : World) :
    Calls Try.prog 4 #[.int .i64 a, .int .i64 b, .int .i64 n] w fun e w' => e = .returned (.bool true) ∧ Below w.heap.size w w' := by
  by_cases h : n < 1
  · exact walk_bad a b n w_a w_b w_n w _ rfl h
  · by_cases hq : In64 (a * b / n)
    · exact walk_ok a b n w_a w_b w_n w _ _ _ _ rfl rfl rfl rfl (by omega) hq
    · exact walk_over a b n w_a w_b w_n w _ _ _ _ rfl rfl rfl rfl (by omega) hq

end Go.Proofs.Ytkgcnbmnhbmdiaa.wideTimes
