/- What the program's drift.anew, Clock.Turn, Clock.Step and drift.Grown answer; nothing that was there is changed. -/
import Derived.Test.YtpenicjlpiechaaDoorDr3
namespace Go.Proofs.YtpenicjlpiechaaDoor.Wd
set_option maxRecDepth 10000
open Go Go.RowKit
set_option linter.unusedVariables false

/-- A clock from t on, that shows by more, and an error. -/
def anw (f s r t b q : Int) : Int × Int × Int × Int := if (rd f s r t).2 = 0 then (if (wh ((rd f s r t).1 + b)).2 = 0 then (t, (wh ((rd f s r t).1 + b)).1, q, 0) else (0, 0, 0, (wh ((rd f s r t).1 + b)).2)) else (0, 0, 0, (rd f s r t).2)
/-- A clock of another rate, and an error. -/
def trn (f s r t q : Int) : Int × Int × Int × Int := if -100000000 ≤ q ∧ q ≤ 100000000 then anw f s r t 0 q else (0, 0, 0, 3)
/-- How much a clock may be wrong, and an error. -/
def grw (n q : Int) : Int × Int := if n < 0 ∨ q < 0 then (0, 1) else wh ((n * q + 999999999) / 1000000000)

set_option maxRecDepth 10000 in
set_option maxHeartbeats 4000000 in
set_option maxRecDepth 10000 in
set_option maxHeartbeats 4000000 in
set_option maxRecDepth 10000 in
set_option maxHeartbeats 4000000 in
set_option maxRecDepth 10000 in
set_option maxHeartbeats 4000000 in
set_option maxRecDepth 10000 in
set_option maxHeartbeats 4000000 in
set_option maxRecDepth 10000 in
set_option maxHeartbeats 4000000 in
set_option maxRecDepth 10000 in
set_option maxHeartbeats 4000000 in
theorem grown_a (n q : Int) (w : World) (h0 : n < 0) :
    Calls Tryd.prog 54 #[.int .i64 n, .int .i64 q] w fun e w' => e = .returned (.tuple #[.int .i64 (0), .int .i64 (1)]) ∧ Below w.heap.size w w' := by
  go_enter Tryd.func54, Tryd.ntmps54
  go_wp2_with (first
    | ((with_reducible refine at_binD 9 ?_); refine L_give (by rfl) (g_ilss 2 _ _ .i64 _ _ true rfl rfl (decide_eq_true h0) ?_)))
  go_ret2
  exact ⟨rfl, Below.refl _ _⟩

set_option maxRecDepth 10000 in
set_option maxHeartbeats 4000000 in
theorem grown_b (n q : Int) (w : World) (h0 : ¬ n < 0) (h1 : q < 0) :
    Calls Tryd.prog 54 #[.int .i64 n, .int .i64 q] w fun e w' => e = .returned (.tuple #[.int .i64 (0), .int .i64 (1)]) ∧ Below w.heap.size w w' := by
  go_enter Tryd.func54, Tryd.ntmps54
  go_wp2_with (first
    | ((with_reducible refine at_binD 9 ?_); refine L_give (by rfl) (g_ilss 2 _ _ .i64 _ _ false rfl rfl (decide_eq_false h0) ?_))
    | ((with_reducible refine at_binD 12 ?_); refine L_give (by rfl) (g_ilss 2 _ _ .i64 _ _ true rfl rfl (decide_eq_true h1) ?_)))
  go_ret2
  exact ⟨rfl, Below.refl _ _⟩

set_option maxRecDepth 10000 in
set_option maxHeartbeats 4000000 in
theorem grown_in (n q P A Q M V E : Int) (w : World) (h0 : ¬ n < 0) (h1 : ¬ q < 0) (hn : In64 n) (hq : In64 q) (hP : Hid (n * q = P)) (j9 : In64 999999999) (i9 : In128 999999999) (iP : In128 P) (iA : In128 A) (hA : Hid (P + 999999999 = A)) (hQ : Hid (A / 1000000000 = Q)) (hM : Hid (A % 1000000000 = M)) (hV : Hid (wh Q = (V, E))) :
    Calls Tryd.prog 54 #[.int .i64 n, .int .i64 q] w fun e w' => e = .returned (.tuple #[.int .i64 (V), .int .i64 (E)]) ∧ Below w.heap.size w w' := by
  go_enter Tryd.func54, Tryd.ntmps54
  go_wp2_with (first
    | ((with_reducible refine at_binD 9 ?_); refine L_give (by rfl) (g_ilss 2 _ _ .i64 _ _ false rfl rfl (decide_eq_false h0) ?_))
    | ((with_reducible refine at_binD 12 ?_); refine L_give (by rfl) (g_ilss 2 _ _ .i64 _ _ false rfl rfl (decide_eq_false h1) ?_)))
  refine (times_l n q P hP w hn hq).mono ?_
  rintro e w1 ⟨rfl, t_⟩
  have hB := t_
  clear t_
  go_wp2_with fail
  refine (of_any 999999999 w1 j9).mono ?_
  rintro e w2 ⟨rfl, t_⟩
  replace hB := hB.trans (t_.mono hB.size)
  clear t_
  go_wp2_with fail
  refine (add_l P 999999999 A w2 iP i9 iA hA).mono ?_
  rintro e w3 ⟨rfl, t_⟩
  replace hB := hB.trans (t_.mono hB.size)
  clear t_
  go_wp2_with (first
    | ((with_reducible refine at_allocD 6 60 ?_); refine L_alloc 60 (nl (0)) zeroN ?_; intro w4 t_ b_p; have l_p : w.heap.size ≤ w3.heap.size := hB.size; replace hB := t_.below hB l_p; clear t_)
    | ((with_reducible refine at_storeX 6 60 ?_); refine L_store_all 60 _ _ (w3.heap.size) (nl (A)) _ 60 rfl rfl b_p (szN 0) (rfl) (one_nl _) ?_; have b0_p := b_p; clear b_p; intro w5 t_ b_p; replace hB := t_.below hB l_p; clear t_ b0_p)
    | ((with_reducible refine at_loadD 22 60 ?_); refine L_load_all 60 _ (w3.heap.size) (nl (A)) 60 _ rfl b_p Tryd.underlying60 rfl (szN 0) ?_))
  refine (wholes_any A Q M w5 iA hQ hM).mono ?_
  rintro e w6 ⟨rfl, t_⟩
  replace b_p := b_p.below t_ b_p.lt
  replace hB := hB.trans (t_.mono hB.size)
  clear t_
  go_wp2_with fail
  refine (int_any Q V E w6 hV).mono ?_
  rintro e w7 ⟨rfl, t_⟩
  replace b_p := b_p.below t_ b_p.lt
  replace hB := hB.trans (t_.mono hB.size)
  clear t_
  go_wp2_with fail
  go_ret2
  exact ⟨rfl, hB⟩

theorem grown_any (n q V E : Int) (w : World) (hn : In64 n) (hq : In64 q) (h : Hid (grw n q = (V, E))) :
    Calls Tryd.prog 54 #[.int .i64 n, .int .i64 q] w fun e w' => e = .returned (.tuple #[.int .i64 V, .int .i64 E]) ∧ Below w.heap.size w w' := by
  have h := h.out
  unfold grw at h
  split at h
  · rename_i h0
    cases h
    by_cases h1 : n < 0
    · exact grown_a n q w h1
    · exact grown_b n q w h1 (by omega)
  · rename_i h0
    have hb := prod_bound n q hn hq
    exact grown_in n q _ _ _ _ V E w (by omega) (by omega) hn hq rfl (by unfold In64; omega) (by unfold In128; omega) (by unfold In128; omega) (by unfold In128; omega) rfl rfl rfl h

end Go.Proofs.YtpenicjlpiechaaDoor.Wd
