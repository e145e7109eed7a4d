/- What the program's drift.anew, Clock.Turn, Clock.Step and drift.Grown answer; nothing that was there is changed. -/
import Derived.Test.YtcllmobjdnhmlaaDr3
namespace Go.Proofs.Ytcllmobjdnhmlaa
open Go Go.RowKit
set_option linter.unusedVariables false

/-- A clock from t on, that shows by more, and an error. -/
def anw (f s r t b q : Int) : Int × Int × Int × Int := if (rd f s r t).2 = 0 then (if (wh ((rd f s r t).1 + b)).2 = 0 then (t, (wh ((rd f s r t).1 + b)).1, q, 0) else (0, 0, 0, (wh ((rd f s r t).1 + b)).2)) else (0, 0, 0, (rd f s r t).2)
/-- A clock of another rate, and an error. -/
def trn (f s r t q : Int) : Int × Int × Int × Int := if -100000000 ≤ q ∧ q ≤ 100000000 then anw f s r t 0 q else (0, 0, 0, 3)
/-- How much a clock may be wrong, and an error. -/
def grw (n q : Int) : Int × Int := if n < 0 ∨ q < 0 then (0, 1) else wh ((n * q + 999999999) / 1000000000)

set_option maxRecDepth 10000 in
set_option maxHeartbeats 4000000 in
theorem anew_e (f s r t b q V E : Int) (w : World) (hf : In64 f) (hs : In64 s) (hr : In64 r) (ht : In64 t) (hb : In64 b) (hV : Hid (rd f s r t = (V, E))) (hE : E ≠ 0) :
    Calls Try.prog 30 #[.agg (cl f s r).toArray, .int .i64 t, .int .i64 b, .int .i64 q] w fun e w' => e = .returned (.tuple #[.agg (cl (0) (0) (0)).toArray, .int .i64 (E)]) ∧ Below w.heap.size w w' := by
  go_enter Try.func30, Try.ntmps30
  go_wp2_with (first
    | ((with_reducible refine at_boxD 4 23 ?_); refine L_box 23 _ (cl (f) (s) (r)) rfl ?_; intro w1 t_ b_c; have l_c : w.heap.size ≤ w.heap.size := Nat.le_refl _; have hB : Below w.heap.size w w1 := t_.below (Below.refl _ _) (Nat.le_refl _); clear t_)
    | ((with_reducible refine at_allocD 8 23 ?_); refine L_alloc 23 (cl 0 0 0) zeroC ?_; intro w2 t_ b_r; have l_r : w.heap.size ≤ w1.heap.size := hB.size; have o_r := b_c.lt; replace b_c := t_.blk b_c (by omega); replace hB := t_.below hB l_r; clear t_)
    | ((with_reducible refine at_loadD 16 23 ?_); refine L_load_all 23 _ (w.heap.size) (cl (f) (s) (r)) 23 _ rfl b_c Try.underlying23 rfl (szC 0 0 0) ?_))
  refine (read_any f s r t V E w2 hf hs hr ht hV).mono ?_
  rintro e w3 ⟨rfl, t_⟩
  replace b_c := b_c.below t_ b_c.lt
  replace b_r := b_r.below t_ b_r.lt
  replace hB := hB.trans (t_.mono hB.size)
  clear t_
  go_wp2_with (first
    | ((with_reducible refine at_binD 22 ?_); refine L_give (by rfl) (g_ine 26 _ _ .i64 _ _ true rfl rfl (decide_eq_true hE) ?_))
    | ((with_reducible refine at_bld 23 ?_); refine L_give (by rfl) (g_bldC0 ?_))
    | ((with_reducible refine at_storeX 8 23 ?_); refine L_store_all 23 _ _ (w1.heap.size) (cl (0) (0) (0)) _ 23 rfl rfl b_r (szC 0 0 0) (rfl) (one_cl _ _ _) ?_; have b0_r := b_r; clear b_r; intro w4 t_ b_r; replace b_c := t_.blk b_c (by omega); replace hB := t_.below hB l_r; clear t_ b0_r))
  exact bodyPost_ret (results_blk_tmp rfl _ (cl (0) (0) (0)) (.int .i64 (E)) _ rfl rfl b_r Try.underlying23 rfl (szC 0 0 0)) rfl ⟨rfl, hB⟩

set_option maxRecDepth 10000 in
set_option maxHeartbeats 4000000 in
theorem anew_f (f s r t b q V Z X F : Int) (w : World) (hf : In64 f) (hs : In64 s) (hr : In64 r) (ht : In64 t) (hb : In64 b) (hV : Hid (rd f s r t = (V, 0))) (jV : In64 V) (iV : In128 V) (ib : In128 b) (iZ : In128 Z) (hZ : Hid (V + b = Z)) (hX : Hid (wh Z = (X, F))) (hF : F ≠ 0) :
    Calls Try.prog 30 #[.agg (cl f s r).toArray, .int .i64 t, .int .i64 b, .int .i64 q] w fun e w' => e = .returned (.tuple #[.agg (cl (0) (0) (0)).toArray, .int .i64 (F)]) ∧ Below w.heap.size w w' := by
  go_enter Try.func30, Try.ntmps30
  go_wp2_with (first
    | ((with_reducible refine at_boxD 4 23 ?_); refine L_box 23 _ (cl (f) (s) (r)) rfl ?_; intro w1 t_ b_c; have l_c : w.heap.size ≤ w.heap.size := Nat.le_refl _; have hB : Below w.heap.size w w1 := t_.below (Below.refl _ _) (Nat.le_refl _); clear t_)
    | ((with_reducible refine at_allocD 8 23 ?_); refine L_alloc 23 (cl 0 0 0) zeroC ?_; intro w2 t_ b_r; have l_r : w.heap.size ≤ w1.heap.size := hB.size; have o_r := b_c.lt; replace b_c := t_.blk b_c (by omega); replace hB := t_.below hB l_r; clear t_)
    | ((with_reducible refine at_loadD 16 23 ?_); refine L_load_all 23 _ (w.heap.size) (cl (f) (s) (r)) 23 _ rfl b_c Try.underlying23 rfl (szC 0 0 0) ?_))
  refine (read_any f s r t V 0 w2 hf hs hr ht hV).mono ?_
  rintro e w3 ⟨rfl, t_⟩
  replace b_c := b_c.below t_ b_c.lt
  replace b_r := b_r.below t_ b_r.lt
  replace hB := hB.trans (t_.mono hB.size)
  clear t_
  go_wp2_with fail
  refine (of_any V w3 jV).mono ?_
  rintro e w4 ⟨rfl, t_⟩
  replace b_c := b_c.below t_ b_c.lt
  replace b_r := b_r.below t_ b_r.lt
  replace hB := hB.trans (t_.mono hB.size)
  clear t_
  go_wp2_with fail
  refine (of_any b w4 hb).mono ?_
  rintro e w5 ⟨rfl, t_⟩
  replace b_c := b_c.below t_ b_c.lt
  replace b_r := b_r.below t_ b_r.lt
  replace hB := hB.trans (t_.mono hB.size)
  clear t_
  go_wp2_with fail
  refine (add_l V b Z w5 iV ib iZ hZ).mono ?_
  rintro e w6 ⟨rfl, t_⟩
  replace b_c := b_c.below t_ b_c.lt
  replace b_r := b_r.below t_ b_r.lt
  replace hB := hB.trans (t_.mono hB.size)
  clear t_
  go_wp2_with (first
    | ((with_reducible refine at_allocD 12 47 ?_); refine L_alloc 47 (nl (0)) zeroN ?_; intro w7 t_ b_u; have l_u : w.heap.size ≤ w6.heap.size := hB.size; have o_u := b_r.lt; replace b_c := t_.blk b_c (by omega); replace b_r := t_.blk b_r (by omega); replace hB := t_.below hB l_u; clear t_)
    | ((with_reducible refine at_storeX 12 47 ?_); refine L_store_all 47 _ _ (w6.heap.size) (nl (Z)) _ 47 rfl rfl b_u (szN 0) (rfl) (one_nl _) ?_; have b0_u := b_u; clear b_u; intro w8 t_ b_u; replace b_c := t_.blk b_c (by omega); replace b_r := t_.blk b_r (by omega); replace hB := t_.below hB l_u; clear t_ b0_u)
    | ((with_reducible refine at_loadD 34 47 ?_); refine L_load_all 47 _ (w6.heap.size) (nl (Z)) 47 _ rfl b_u Try.underlying47 rfl (szN 0) ?_))
  refine (int_any Z X F w8 hX).mono ?_
  rintro e w9 ⟨rfl, t_⟩
  replace b_c := b_c.below t_ b_c.lt
  replace b_r := b_r.below t_ b_r.lt
  replace b_u := b_u.below t_ b_u.lt
  replace hB := hB.trans (t_.mono hB.size)
  clear t_
  go_wp2_with (first
    | ((with_reducible refine at_binD 39 ?_); refine L_give (by rfl) (g_ine 26 _ _ .i64 _ _ true rfl rfl (decide_eq_true hF) ?_))
    | ((with_reducible refine at_bld 40 ?_); refine L_give (by rfl) (g_bldC0 ?_))
    | ((with_reducible refine at_storeX 8 23 ?_); refine L_store_all 23 _ _ (w1.heap.size) (cl (0) (0) (0)) _ 23 rfl rfl b_r (szC 0 0 0) (rfl) (one_cl _ _ _) ?_; have b0_r := b_r; clear b_r; intro w10 t_ b_r; replace b_c := t_.blk b_c (by omega); replace b_u := t_.blk b_u (by omega); replace hB := t_.below hB l_r; clear t_ b0_r))
  exact bodyPost_ret (results_blk_tmp rfl _ (cl (0) (0) (0)) (.int .i64 (F)) _ rfl rfl b_r Try.underlying23 rfl (szC 0 0 0)) rfl ⟨rfl, hB⟩

set_option maxRecDepth 10000 in
set_option maxHeartbeats 4000000 in
theorem anew_ok (f s r t b q V Z X : Int) (w : World) (hf : In64 f) (hs : In64 s) (hr : In64 r) (ht : In64 t) (hb : In64 b) (hV : Hid (rd f s r t = (V, 0))) (jV : In64 V) (iV : In128 V) (ib : In128 b) (iZ : In128 Z) (hZ : Hid (V + b = Z)) (hX : Hid (wh Z = (X, 0))) :
    Calls Try.prog 30 #[.agg (cl f s r).toArray, .int .i64 t, .int .i64 b, .int .i64 q] w fun e w' => e = .returned (.tuple #[.agg (cl (t) (X) (q)).toArray, .int .i64 (0)]) ∧ Below w.heap.size w w' := by
  go_enter Try.func30, Try.ntmps30
  go_wp2_with (first
    | ((with_reducible refine at_boxD 4 23 ?_); refine L_box 23 _ (cl (f) (s) (r)) rfl ?_; intro w1 t_ b_c; have l_c : w.heap.size ≤ w.heap.size := Nat.le_refl _; have hB : Below w.heap.size w w1 := t_.below (Below.refl _ _) (Nat.le_refl _); clear t_)
    | ((with_reducible refine at_allocD 8 23 ?_); refine L_alloc 23 (cl 0 0 0) zeroC ?_; intro w2 t_ b_r; have l_r : w.heap.size ≤ w1.heap.size := hB.size; have o_r := b_c.lt; replace b_c := t_.blk b_c (by omega); replace hB := t_.below hB l_r; clear t_)
    | ((with_reducible refine at_loadD 16 23 ?_); refine L_load_all 23 _ (w.heap.size) (cl (f) (s) (r)) 23 _ rfl b_c Try.underlying23 rfl (szC 0 0 0) ?_))
  refine (read_any f s r t V 0 w2 hf hs hr ht hV).mono ?_
  rintro e w3 ⟨rfl, t_⟩
  replace b_c := b_c.below t_ b_c.lt
  replace b_r := b_r.below t_ b_r.lt
  replace hB := hB.trans (t_.mono hB.size)
  clear t_
  go_wp2_with fail
  refine (of_any V w3 jV).mono ?_
  rintro e w4 ⟨rfl, t_⟩
  replace b_c := b_c.below t_ b_c.lt
  replace b_r := b_r.below t_ b_r.lt
  replace hB := hB.trans (t_.mono hB.size)
  clear t_
  go_wp2_with fail
  refine (of_any b w4 hb).mono ?_
  rintro e w5 ⟨rfl, t_⟩
  replace b_c := b_c.below t_ b_c.lt
  replace b_r := b_r.below t_ b_r.lt
  replace hB := hB.trans (t_.mono hB.size)
  clear t_
  go_wp2_with fail
  refine (add_l V b Z w5 iV ib iZ hZ).mono ?_
  rintro e w6 ⟨rfl, t_⟩
  replace b_c := b_c.below t_ b_c.lt
  replace b_r := b_r.below t_ b_r.lt
  replace hB := hB.trans (t_.mono hB.size)
  clear t_
  go_wp2_with (first
    | ((with_reducible refine at_allocD 12 47 ?_); refine L_alloc 47 (nl (0)) zeroN ?_; intro w7 t_ b_u; have l_u : w.heap.size ≤ w6.heap.size := hB.size; have o_u := b_r.lt; replace b_c := t_.blk b_c (by omega); replace b_r := t_.blk b_r (by omega); replace hB := t_.below hB l_u; clear t_)
    | ((with_reducible refine at_storeX 12 47 ?_); refine L_store_all 47 _ _ (w6.heap.size) (nl (Z)) _ 47 rfl rfl b_u (szN 0) (rfl) (one_nl _) ?_; have b0_u := b_u; clear b_u; intro w8 t_ b_u; replace b_c := t_.blk b_c (by omega); replace b_r := t_.blk b_r (by omega); replace hB := t_.below hB l_u; clear t_ b0_u)
    | ((with_reducible refine at_loadD 34 47 ?_); refine L_load_all 47 _ (w6.heap.size) (nl (Z)) 47 _ rfl b_u Try.underlying47 rfl (szN 0) ?_))
  refine (int_any Z X 0 w8 hX).mono ?_
  rintro e w9 ⟨rfl, t_⟩
  replace b_c := b_c.below t_ b_c.lt
  replace b_r := b_r.below t_ b_r.lt
  replace b_u := b_u.below t_ b_u.lt
  replace hB := hB.trans (t_.mono hB.size)
  clear t_
  go_wp2_with (first
    | ((with_reducible refine at_bld 45 ?_); refine L_give (by rfl) (g_bldC _ _ _ _ _ _ rfl rfl rfl ?_))
    | ((with_reducible refine at_storeX 8 23 ?_); refine L_store_all 23 _ _ (w1.heap.size) (cl (t) (X) (q)) _ 23 rfl rfl b_r (szC 0 0 0) (rfl) (one_cl _ _ _) ?_; have b0_r := b_r; clear b_r; intro w10 t_ b_r; replace b_c := t_.blk b_c (by omega); replace b_u := t_.blk b_u (by omega); replace hB := t_.below hB l_r; clear t_ b0_r))
  exact bodyPost_ret (results_blk_tmp rfl _ (cl (t) (X) (q)) (.int .i64 (0)) _ rfl rfl b_r Try.underlying23 rfl (szC 0 0 0)) rfl ⟨rfl, hB⟩

theorem anew_any (f s r t b q F S R E : Int) (w : World) (hf : In64 f) (hs : In64 s) (hr : In64 r) (ht : In64 t) (hb : In64 b) (h : Hid (anw f s r t b q = (F, S, R, E))) :
    Calls Try.prog 30 #[.agg (cl f s r).toArray, .int .i64 t, .int .i64 b, .int .i64 q] w fun e w' => e = .returned (.tuple #[.agg (cl F S R).toArray, .int .i64 E]) ∧ Below w.heap.size w w' := by
  have h := h.out
  unfold anw at h
  have j64 := rd_64 f s r t
  obtain ⟨⟨V, X⟩, hV⟩ : ∃ x, rd f s r t = x := ⟨_, rfl⟩
  rw [hV] at h j64
  have j64 : In64 V := j64
  split at h
  · rename_i h0
    have h0 : X = 0 := h0
    subst h0
    obtain ⟨⟨Y, G⟩, hY⟩ : ∃ x, wh (V + b) = x := ⟨_, rfl⟩
    rw [show wh ((V, (0 : Int)).1 + b) = (Y, G) from hY] at h
    have a1 := j64
    have a2 := hb
    unfold In64 at a1 a2
    have iZ : In128 (V + b) := by unfold In128; omega
    split at h
    · rename_i h0
      have h0 : G = 0 := h0
      subst h0
      cases h
      exact anew_ok f s r t b q V (V + b) Y w hf hs hr ht hb hV j64 j64.to hb.to iZ rfl hY
    · rename_i h0
      cases h
      exact anew_f f s r t b q V (V + b) Y G w hf hs hr ht hb hV j64 j64.to hb.to iZ rfl hY h0
  · rename_i h0
    cases h
    exact anew_e f s r t b q V X w hf hs hr ht hb hV h0

set_option maxRecDepth 10000 in
set_option maxHeartbeats 4000000 in
theorem turn_bad (f s r t q : Int) (w : World) (hf : In64 f) (hs : In64 s) (hr : In64 r) (ht : In64 t) (hq : In64 q) (ho : ¬ Ok q) :
    Calls Try.prog 13 #[.agg (cl f s r).toArray, .int .i64 t, .int .i64 q] w fun e w' => e = .returned (.tuple #[.agg (cl (0) (0) (0)).toArray, .int .i64 (3)]) ∧ Below w.heap.size w w' := by
  go_enter Try.func13, Try.ntmps13
  go_wp2_with (first
    | ((with_reducible refine at_boxD 3 23 ?_); refine L_box 23 _ (cl (f) (s) (r)) rfl ?_; intro w1 t_ b_c; have l_c : w.heap.size ≤ w.heap.size := Nat.le_refl _; have hB : Below w.heap.size w w1 := t_.below (Below.refl _ _) (Nat.le_refl _); clear t_)
    | ((with_reducible refine at_allocD 6 23 ?_); refine L_alloc 23 (cl 0 0 0) zeroC ?_; intro w2 t_ b_r; have l_r : w.heap.size ≤ w1.heap.size := hB.size; have o_r := b_c.lt; replace b_c := t_.blk b_c (by omega); replace hB := t_.below hB l_r; clear t_))
  refine (new_bad t 0 q w2 ho).mono ?_
  rintro e w3 ⟨rfl, t_⟩
  replace b_c := b_c.below t_ b_c.lt
  replace b_r := b_r.below t_ b_r.lt
  replace hB := hB.trans (t_.mono hB.size)
  clear t_
  go_wp2_with (first
    | ((with_reducible refine at_allocD 8 23 ?_); refine L_alloc 23 (cl 0 0 0) zeroC ?_; intro w4 t_ b_d; have l_d : w.heap.size ≤ w3.heap.size := hB.size; have o_d := b_r.lt; replace b_c := t_.blk b_c (by omega); replace b_r := t_.blk b_r (by omega); replace hB := t_.below hB l_d; clear t_)
    | ((with_reducible refine at_storeX 8 23 ?_); refine L_store_all 23 _ _ (w3.heap.size) (cl (0) (0) (0)) _ 23 rfl rfl b_d (szC 0 0 0) (rfl) (one_cl _ _ _) ?_; have b0_d := b_d; clear b_d; intro w5 t_ b_d; replace b_c := t_.blk b_c (by omega); replace b_r := t_.blk b_r (by omega); replace hB := t_.below hB l_d; clear t_ b0_d)
    | ((with_reducible refine at_bld 18 ?_); refine L_give (by rfl) (g_bldC0 ?_))
    | ((with_reducible refine at_storeX 6 23 ?_); refine L_store_all 23 _ _ (w1.heap.size) (cl (0) (0) (0)) _ 23 rfl rfl b_r (szC 0 0 0) (rfl) (one_cl _ _ _) ?_; have b0_r := b_r; clear b_r; intro w6 t_ b_r; replace b_c := t_.blk b_c (by omega); replace b_d := t_.blk b_d (by omega); replace hB := t_.below hB l_r; clear t_ b0_r))
  exact bodyPost_ret (results_blk_tmp rfl _ (cl (0) (0) (0)) (.int .i64 (3)) _ rfl rfl b_r Try.underlying23 rfl (szC 0 0 0)) rfl ⟨rfl, hB⟩

set_option maxRecDepth 10000 in
set_option maxHeartbeats 4000000 in
theorem turn_in (f s r t q F S R E : Int) (w : World) (hf : In64 f) (hs : In64 s) (hr : In64 r) (ht : In64 t) (hq : In64 q) (ho : Ok q) (j0 : In64 0) (h : Hid (anw f s r t 0 q = (F, S, R, E))) :
    Calls Try.prog 13 #[.agg (cl f s r).toArray, .int .i64 t, .int .i64 q] w fun e w' => e = .returned (.tuple #[.agg (cl (F) (S) (R)).toArray, .int .i64 (E)]) ∧ Below w.heap.size w w' := by
  go_enter Try.func13, Try.ntmps13
  go_wp2_with (first
    | ((with_reducible refine at_boxD 3 23 ?_); refine L_box 23 _ (cl (f) (s) (r)) rfl ?_; intro w1 t_ b_c; have l_c : w.heap.size ≤ w.heap.size := Nat.le_refl _; have hB : Below w.heap.size w w1 := t_.below (Below.refl _ _) (Nat.le_refl _); clear t_)
    | ((with_reducible refine at_allocD 6 23 ?_); refine L_alloc 23 (cl 0 0 0) zeroC ?_; intro w2 t_ b_r; have l_r : w.heap.size ≤ w1.heap.size := hB.size; have o_r := b_c.lt; replace b_c := t_.blk b_c (by omega); replace hB := t_.below hB l_r; clear t_))
  refine (new_good t 0 q w2 ho).mono ?_
  rintro e w3 ⟨rfl, t_⟩
  replace b_c := b_c.below t_ b_c.lt
  replace b_r := b_r.below t_ b_r.lt
  replace hB := hB.trans (t_.mono hB.size)
  clear t_
  go_wp2_with (first
    | ((with_reducible refine at_allocD 8 23 ?_); refine L_alloc 23 (cl 0 0 0) zeroC ?_; intro w4 t_ b_d; have l_d : w.heap.size ≤ w3.heap.size := hB.size; have o_d := b_r.lt; replace b_c := t_.blk b_c (by omega); replace b_r := t_.blk b_r (by omega); replace hB := t_.below hB l_d; clear t_)
    | ((with_reducible refine at_storeX 8 23 ?_); refine L_store_all 23 _ _ (w3.heap.size) (cl (t) (0) (q)) _ 23 rfl rfl b_d (szC 0 0 0) (rfl) (one_cl _ _ _) ?_; have b0_d := b_d; clear b_d; intro w5 t_ b_d; replace b_c := t_.blk b_c (by omega); replace b_r := t_.blk b_r (by omega); replace hB := t_.below hB l_d; clear t_ b0_d)
    | ((with_reducible refine at_loadD 20 23 ?_); refine L_load_all 23 _ (w.heap.size) (cl (f) (s) (r)) 23 _ rfl b_c Try.underlying23 rfl (szC 0 0 0) ?_))
  refine (anew_any f s r t 0 q F S R E w5 hf hs hr ht j0 h).mono ?_
  rintro e w6 ⟨rfl, t_⟩
  replace b_c := b_c.below t_ b_c.lt
  replace b_r := b_r.below t_ b_r.lt
  replace b_d := b_d.below t_ b_d.lt
  replace hB := hB.trans (t_.mono hB.size)
  clear t_
  go_wp2_with (first
    | ((with_reducible refine at_storeX 6 23 ?_); refine L_store_all 23 _ _ (w1.heap.size) (cl (F) (S) (R)) _ 23 rfl rfl b_r (szC 0 0 0) (rfl) (one_cl _ _ _) ?_; have b0_r := b_r; clear b_r; intro w7 t_ b_r; replace b_c := t_.blk b_c (by omega); replace b_d := t_.blk b_d (by omega); replace hB := t_.below hB l_r; clear t_ b0_r))
  exact bodyPost_ret (results_blk_tmp rfl _ (cl (F) (S) (R)) (.int .i64 (E)) _ rfl rfl b_r Try.underlying23 rfl (szC 0 0 0)) rfl ⟨rfl, hB⟩

set_option maxRecDepth 10000 in
set_option maxHeartbeats 4000000 in
theorem step_any (f s r t q F S R E : Int) (w : World) (hf : In64 f) (hs : In64 s) (hr : In64 r) (ht : In64 t) (hq : In64 q) (h : Hid (anw f s r t q r = (F, S, R, E))) :
    Calls Try.prog 15 #[.agg (cl f s r).toArray, .int .i64 t, .int .i64 q] w fun e w' => e = .returned (.tuple #[.agg (cl (F) (S) (R)).toArray, .int .i64 (E)]) ∧ Below w.heap.size w w' := by
  go_enter Try.func15, Try.ntmps15
  go_wp2_with (first
    | ((with_reducible refine at_boxD 3 23 ?_); refine L_box 23 _ (cl (f) (s) (r)) rfl ?_; intro w1 t_ b_c; have l_c : w.heap.size ≤ w.heap.size := Nat.le_refl _; have hB : Below w.heap.size w w1 := t_.below (Below.refl _ _) (Nat.le_refl _); clear t_)
    | ((with_reducible refine at_allocD 6 23 ?_); refine L_alloc 23 (cl 0 0 0) zeroC ?_; intro w2 t_ b_r; have l_r : w.heap.size ≤ w1.heap.size := hB.size; have o_r := b_c.lt; replace b_c := t_.blk b_c (by omega); replace hB := t_.below hB l_r; clear t_)
    | ((with_reducible refine at_loadD 8 23 ?_); refine L_load_all 23 _ (w.heap.size) (cl (f) (s) (r)) 23 _ rfl b_c Try.underlying23 rfl (szC 0 0 0) ?_)
    | ((with_reducible refine at_loadD 12 2 ?_); refine L_cell2 _ (w.heap.size) 2 (cl (f) (s) (r)) 23 (.int .i64 (r)) rfl b_c (rfl) ?_))
  refine (anew_any f s r t q r F S R E w2 hf hs hr ht hq h).mono ?_
  rintro e w3 ⟨rfl, t_⟩
  replace b_c := b_c.below t_ b_c.lt
  replace b_r := b_r.below t_ b_r.lt
  replace hB := hB.trans (t_.mono hB.size)
  clear t_
  go_wp2_with (first
    | ((with_reducible refine at_storeX 6 23 ?_); refine L_store_all 23 _ _ (w1.heap.size) (cl (F) (S) (R)) _ 23 rfl rfl b_r (szC 0 0 0) (rfl) (one_cl _ _ _) ?_; have b0_r := b_r; clear b_r; intro w4 t_ b_r; replace b_c := t_.blk b_c (by omega); replace hB := t_.below hB l_r; clear t_ b0_r))
  exact bodyPost_ret (results_blk_tmp rfl _ (cl (F) (S) (R)) (.int .i64 (E)) _ rfl rfl b_r Try.underlying23 rfl (szC 0 0 0)) rfl ⟨rfl, hB⟩

theorem turn_any (f s r t q F S R E : Int) (w : World) (hf : In64 f) (hs : In64 s) (hr : In64 r) (ht : In64 t) (hq : In64 q) (h : Hid (trn f s r t q = (F, S, R, E))) :
    Calls Try.prog 13 #[.agg (cl f s r).toArray, .int .i64 t, .int .i64 q] w fun e w' => e = .returned (.tuple #[.agg (cl F S R).toArray, .int .i64 E]) ∧ Below w.heap.size w w' := by
  have h := h.out
  unfold trn at h
  split at h
  · exact turn_in f s r t q F S R E w hf hs hr ht hq (by assumption) (by unfold In64; omega) h
  · cases h
    exact turn_bad f s r t q w hf hs hr ht hq (by assumption)

set_option maxRecDepth 10000 in
set_option maxHeartbeats 4000000 in
theorem grown_a (n q : Int) (w : World) (h0 : n < 0) :
    Calls Try.prog 17 #[.int .i64 n, .int .i64 q] w fun e w' => e = .returned (.tuple #[.int .i64 (0), .int .i64 (1)]) ∧ Below w.heap.size w w' := by
  go_enter Try.func17, Try.ntmps17
  go_wp2_with (first
    | ((with_reducible refine at_binD 9 ?_); refine L_give (by rfl) (g_ilss 2 _ _ .i64 _ _ true rfl rfl (decide_eq_true h0) ?_)))
  go_ret2
  exact ⟨rfl, Below.refl _ _⟩

set_option maxRecDepth 10000 in
set_option maxHeartbeats 4000000 in
theorem grown_b (n q : Int) (w : World) (h0 : ¬ n < 0) (h1 : q < 0) :
    Calls Try.prog 17 #[.int .i64 n, .int .i64 q] w fun e w' => e = .returned (.tuple #[.int .i64 (0), .int .i64 (1)]) ∧ Below w.heap.size w w' := by
  go_enter Try.func17, Try.ntmps17
  go_wp2_with (first
    | ((with_reducible refine at_binD 9 ?_); refine L_give (by rfl) (g_ilss 2 _ _ .i64 _ _ false rfl rfl (decide_eq_false h0) ?_))
    | ((with_reducible refine at_binD 12 ?_); refine L_give (by rfl) (g_ilss 2 _ _ .i64 _ _ true rfl rfl (decide_eq_true h1) ?_)))
  go_ret2
  exact ⟨rfl, Below.refl _ _⟩

set_option maxRecDepth 10000 in
set_option maxHeartbeats 4000000 in
theorem grown_in (n q P A Q M V E : Int) (w : World) (h0 : ¬ n < 0) (h1 : ¬ q < 0) (hn : In64 n) (hq : In64 q) (hP : Hid (n * q = P)) (j9 : In64 999999999) (i9 : In128 999999999) (iP : In128 P) (iA : In128 A) (hA : Hid (P + 999999999 = A)) (hQ : Hid (A / 1000000000 = Q)) (hM : Hid (A % 1000000000 = M)) (hV : Hid (wh Q = (V, E))) :
    Calls Try.prog 17 #[.int .i64 n, .int .i64 q] w fun e w' => e = .returned (.tuple #[.int .i64 (V), .int .i64 (E)]) ∧ Below w.heap.size w w' := by
  go_enter Try.func17, Try.ntmps17
  go_wp2_with (first
    | ((with_reducible refine at_binD 9 ?_); refine L_give (by rfl) (g_ilss 2 _ _ .i64 _ _ false rfl rfl (decide_eq_false h0) ?_))
    | ((with_reducible refine at_binD 12 ?_); refine L_give (by rfl) (g_ilss 2 _ _ .i64 _ _ false rfl rfl (decide_eq_false h1) ?_)))
  refine (times_l n q P hP w hn hq).mono ?_
  rintro e w1 ⟨rfl, t_⟩
  have hB := t_
  clear t_
  go_wp2_with fail
  refine (of_any 999999999 w1 j9).mono ?_
  rintro e w2 ⟨rfl, t_⟩
  replace hB := hB.trans (t_.mono hB.size)
  clear t_
  go_wp2_with fail
  refine (add_l P 999999999 A w2 iP i9 iA hA).mono ?_
  rintro e w3 ⟨rfl, t_⟩
  replace hB := hB.trans (t_.mono hB.size)
  clear t_
  go_wp2_with (first
    | ((with_reducible refine at_allocD 6 47 ?_); refine L_alloc 47 (nl (0)) zeroN ?_; intro w4 t_ b_p; have l_p : w.heap.size ≤ w3.heap.size := hB.size; replace hB := t_.below hB l_p; clear t_)
    | ((with_reducible refine at_storeX 6 47 ?_); refine L_store_all 47 _ _ (w3.heap.size) (nl (A)) _ 47 rfl rfl b_p (szN 0) (rfl) (one_nl _) ?_; have b0_p := b_p; clear b_p; intro w5 t_ b_p; replace hB := t_.below hB l_p; clear t_ b0_p)
    | ((with_reducible refine at_loadD 22 47 ?_); refine L_load_all 47 _ (w3.heap.size) (nl (A)) 47 _ rfl b_p Try.underlying47 rfl (szN 0) ?_))
  refine (wholes_any A Q M w5 iA hQ hM).mono ?_
  rintro e w6 ⟨rfl, t_⟩
  replace b_p := b_p.below t_ b_p.lt
  replace hB := hB.trans (t_.mono hB.size)
  clear t_
  go_wp2_with fail
  refine (int_any Q V E w6 hV).mono ?_
  rintro e w7 ⟨rfl, t_⟩
  replace b_p := b_p.below t_ b_p.lt
  replace hB := hB.trans (t_.mono hB.size)
  clear t_
  go_wp2_with fail
  go_ret2
  exact ⟨rfl, hB⟩

theorem grown_any (n q V E : Int) (w : World) (hn : In64 n) (hq : In64 q) (h : Hid (grw n q = (V, E))) :
    Calls Try.prog 17 #[.int .i64 n, .int .i64 q] w fun e w' => e = .returned (.tuple #[.int .i64 V, .int .i64 E]) ∧ Below w.heap.size w w' := by
  have h := h.out
  unfold grw at h
  split at h
  · rename_i h0
    cases h
    by_cases h1 : n < 0
    · exact grown_a n q w h1
    · exact grown_b n q w h1 (by omega)
  · rename_i h0
    have hb := prod_bound n q hn hq
    exact grown_in n q _ _ _ _ V E w (by omega) (by omega) hn hq rfl (by unfold In64; omega) (by unfold In128; omega) (by unfold In128; omega) (by unfold In128; omega) rfl rfl rfl h

end Go.Proofs.Ytcllmobjdnhmlaa
