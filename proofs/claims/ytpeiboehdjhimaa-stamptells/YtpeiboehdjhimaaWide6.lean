/- What the program's wide.Part answers; nothing that was there is changed. -/
import Derived.Test.YtpeiboehdjhimaaWide5
namespace Go.Proofs.Ytpeiboehdjhimaa
open Go Go.RowKit
set_option linter.unusedVariables false
theorem times_l (a b M : Int) (hM : Hid (a * b = M)) (w : World) (ha : In64 a) (hb : In64 b) :
    Calls Try.prog 59 #[.int .i64 a, .int .i64 b] w fun e w' => e = .returned (.agg (nl M).toArray) ∧ Below w.heap.size w w' := by
  have h := times_any a b w ha hb
  rwa [hM.out] at h
theorem prod_in (a b M : Int) (hM : Hid (a * b = M)) (ha : In64 a) (hb : In64 b) : Hid (In128 M) := by
  have h := prod_bound a b ha hb
  have e := hM.out
  show In128 M
  unfold In128
  omega
theorem add_l (a b s : Int) (w : World) (ha : In128 a) (hb : In128 b) (hs : In128 s) (h : Hid (a + b = s)) :
    Calls Try.prog 30 #[.agg (nl a).toArray, .agg (nl b).toArray] w fun e w' => e = .returned (.tuple #[.agg (nl s).toArray, .int .i64 0]) ∧ Below w.heap.size w w' := by
  have e := h.out
  subst e
  exact add_ok a b w ha hb hs
theorem sub_l (a b s : Int) (w : World) (ha : In128 a) (hb : In128 b) (hs : In128 s) (h : Hid (a - b = s)) :
    Calls Try.prog 43 #[.agg (nl a).toArray, .agg (nl b).toArray] w fun e w' => e = .returned (.tuple #[.agg (nl s).toArray, .int .i64 0]) ∧ Below w.heap.size w w' := by
  have e := h.out
  subst e
  exact sub_ok a b w ha hb hs
theorem In64.to (n : Int) (h : In64 n) : In128 n := by unfold In64 at h; unfold In128; omega

set_option maxRecDepth 10000 in
set_option maxHeartbeats 2000000 in
theorem part_bad (a b n M : Int) (hM : Hid (a * b = M)) (w : World) (ha : In64 a) (hb : In64 b) (hn : n < 1) :
    Calls Try.prog 47 #[.int .i64 a, .int .i64 b, .int .i64 n] w fun e w' => e = .returned (.tuple #[.int .i64 0, .int .i64 1]) ∧ Below w.heap.size w w' := by
  go_enter Try.func47, Try.ntmps47
  go_wp2_with fail
  refine (times_l a b M hM w ha hb).mono ?_
  rintro e w1 ⟨rfl, t_⟩
  have hB := t_
  clear t_
  go_wp2_with fail
  refine (div_bad M n w1 hn).mono ?_
  rintro e w2 ⟨rfl, t_⟩
  replace hB := hB.trans (t_.mono hB.size)
  clear t_
  go_wp2_with (first
    | ((with_reducible refine at_allocD 8 25 ?_); refine L_alloc 25 (nl (0)) zeroN ?_; intro w3 t_ b_p; have l_p : w.heap.size ≤ w2.heap.size := hB.size; replace hB := t_.below hB l_p; clear t_)
    | ((with_reducible refine at_storeX 8 25 ?_); refine L_store_all 25 _ _ (w2.heap.size) (nl (0)) _ 25 rfl rfl b_p (szN 0) (rfl) (one_nl _) ?_; clear b_p; intro w4 t_ b_p; replace hB := t_.below hB l_p; clear t_))
  go_ret2
  exact ⟨rfl, hB⟩

set_option maxRecDepth 10000 in
set_option maxHeartbeats 2000000 in
theorem part_ok (a b n M Q : Int) (hM : Hid (a * b = M)) (w : World) (ha : In64 a) (hb : In64 b) (h0 : 1 ≤ n) (h1 : n < 9223372036854775808) (hQ : Hid (M / n = Q)) (hq : In64 Q) :
    Calls Try.prog 47 #[.int .i64 a, .int .i64 b, .int .i64 n] w fun e w' => e = .returned (.tuple #[.int .i64 Q, .int .i64 0]) ∧ Below w.heap.size w w' := by
  obtain ⟨R, hR⟩ : ∃ R, M % n = R := ⟨_, rfl⟩
  replace hR : Hid _ := hR
  have hI := prod_in a b M hM ha hb
  go_enter Try.func47, Try.ntmps47
  go_wp2_with fail
  refine (times_l a b M hM w ha hb).mono ?_
  rintro e w1 ⟨rfl, t_⟩
  have hB := t_
  clear t_
  go_wp2_with fail
  refine (div_any M n w1 hI.out h0 h1 Q R hQ hR).mono ?_
  rintro e w2 ⟨rfl, t_⟩
  replace hB := hB.trans (t_.mono hB.size)
  clear t_
  go_wp2_with (first
    | ((with_reducible refine at_allocD 8 25 ?_); refine L_alloc 25 (nl (0)) zeroN ?_; intro w3 t_ b_p; have l_p : w.heap.size ≤ w2.heap.size := hB.size; replace hB := t_.below hB l_p; clear t_)
    | ((with_reducible refine at_storeX 8 25 ?_); refine L_store_all 25 _ _ (w2.heap.size) (nl (Q)) _ 25 rfl rfl b_p (szN 0) (rfl) (one_nl _) ?_; clear b_p; intro w4 t_ b_p; replace hB := t_.below hB l_p; clear t_)
    | ((with_reducible refine at_loadD 23 25 ?_); refine L_load_all 25 _ (w2.heap.size) (nl (Q)) 25 _ rfl b_p Try.underlying25 rfl (szN 0) ?_))
  refine (int_ok Q w4 hq).mono ?_
  rintro e w5 ⟨rfl, t_⟩
  replace b_p := b_p.below t_ b_p.lt
  replace hB := hB.trans (t_.mono hB.size)
  clear t_
  go_wp2_with fail
  go_ret2
  exact ⟨rfl, hB⟩

set_option maxRecDepth 10000 in
set_option maxHeartbeats 2000000 in
theorem part_over (a b n M Q : Int) (hM : Hid (a * b = M)) (w : World) (ha : In64 a) (hb : In64 b) (h0 : 1 ≤ n) (h1 : n < 9223372036854775808) (hQ : Hid (M / n = Q)) (hq : ¬ In64 Q) :
    Calls Try.prog 47 #[.int .i64 a, .int .i64 b, .int .i64 n] w fun e w' => e = .returned (.tuple #[.int .i64 0, .int .i64 6]) ∧ Below w.heap.size w w' := by
  obtain ⟨R, hR⟩ : ∃ R, M % n = R := ⟨_, rfl⟩
  replace hR : Hid _ := hR
  have hI := prod_in a b M hM ha hb
  go_enter Try.func47, Try.ntmps47
  go_wp2_with fail
  refine (times_l a b M hM w ha hb).mono ?_
  rintro e w1 ⟨rfl, t_⟩
  have hB := t_
  clear t_
  go_wp2_with fail
  refine (div_any M n w1 hI.out h0 h1 Q R hQ hR).mono ?_
  rintro e w2 ⟨rfl, t_⟩
  replace hB := hB.trans (t_.mono hB.size)
  clear t_
  go_wp2_with (first
    | ((with_reducible refine at_allocD 8 25 ?_); refine L_alloc 25 (nl (0)) zeroN ?_; intro w3 t_ b_p; have l_p : w.heap.size ≤ w2.heap.size := hB.size; replace hB := t_.below hB l_p; clear t_)
    | ((with_reducible refine at_storeX 8 25 ?_); refine L_store_all 25 _ _ (w2.heap.size) (nl (Q)) _ 25 rfl rfl b_p (szN 0) (rfl) (one_nl _) ?_; clear b_p; intro w4 t_ b_p; replace hB := t_.below hB l_p; clear t_)
    | ((with_reducible refine at_loadD 23 25 ?_); refine L_load_all 25 _ (w2.heap.size) (nl (Q)) 25 _ rfl b_p Try.underlying25 rfl (szN 0) ?_))
  refine (int_over Q w4 hq).mono ?_
  rintro e w5 ⟨rfl, t_⟩
  replace b_p := b_p.below t_ b_p.lt
  replace hB := hB.trans (t_.mono hB.size)
  clear t_
  go_wp2_with fail
  go_ret2
  exact ⟨rfl, hB⟩
end Go.Proofs.Ytpeiboehdjhimaa
