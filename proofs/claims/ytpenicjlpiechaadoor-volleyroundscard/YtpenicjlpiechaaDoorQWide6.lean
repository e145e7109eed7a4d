/- What the program's wide.Times, wide.Add and wide.Sub answer, the answer under a name; nothing that was there is changed. What single operations yield: sums, differences and what is turned about, of numbers. A clock (the program's and the reference's: three numbers) in a walk: what single operations yield on it. What the program's drift.New answers, and Clock.first, gone, gained and wholes; nothing that was there is changed. What the program's drift.shown answers: a sum of three things that are asked of a clock; nothing that was there is changed. What the program's Clock.Read answers; nothing that was there is changed. What the program's drift.anew, Clock.Turn, Clock.Step and drift.Grown answer; nothing that was there is changed. -/
import Derived.Test.YtpenicjlpiechaaDoorQWd
namespace Go.Proofs.YtpenicjlpiechaaDoor.Wd
set_option maxRecDepth 10000
open Go Go.RowKit
set_option linter.unusedVariables false
theorem times_l (a b M : Int) (hM : Hid (a * b = M)) (w : World) (ha : In64 a) (hb : In64 b) :
    Calls Tryd.prog 73 #[.int .i64 a, .int .i64 b] w fun e w' => e = .returned (.agg (nl M).toArray) ∧ Below w.heap.size w w' := by
  have h := times_any a b w ha hb
  rwa [hM.out] at h
theorem add_l (a b s : Int) (w : World) (ha : In128 a) (hb : In128 b) (hs : In128 s) (h : Hid (a + b = s)) :
    Calls Tryd.prog 52 #[.agg (nl a).toArray, .agg (nl b).toArray] w fun e w' => e = .returned (.tuple #[.agg (nl s).toArray, .int .i64 0]) ∧ Below w.heap.size w w' := by
  have e := h.out
  subst e
  exact add_ok a b w ha hb hs
theorem In64.to (n : Int) (h : In64 n) : In128 n := by unfold In64 at h; unfold In128; omega

end Go.Proofs.YtpenicjlpiechaaDoor.Wd
namespace Go.Proofs.YtpenicjlpiechaaDoor.Wd
set_option maxRecDepth 10000
open Go Go.RowKit
section
variable {P : Program} {a : Act} {w : World} {dst : Option Tmp} {ty yt : TypeId} {pos : String} {aft : Array Edge} {gd : Option (Nat × Bool)} {K : Value → World → Prop}
theorem g_iadd (t : TypeId) (x y : Operand) (k : IntKind) (p q r : Int) (hx : a.eval x = .int k p) (hy : a.eval y = .int k q) (hr : k.wrap (p + q) = r) (hk : K (.int k r) w) : gives P ⟨dst, .binOp .add t x y yt, ty, pos, aft, gd⟩ a w K :=
  g_val (.int k r) w (by simp [execOp, hx, hy, eqGuard, binOp, Op.intArith, hr]) hk
theorem g_isub (t : TypeId) (x y : Operand) (k : IntKind) (p q r : Int) (hx : a.eval x = .int k p) (hy : a.eval y = .int k q) (hr : k.wrap (p - q) = r) (hk : K (.int k r) w) : gives P ⟨dst, .binOp .sub t x y yt, ty, pos, aft, gd⟩ a w K :=
  g_val (.int k r) w (by simp [execOp, hx, hy, eqGuard, binOp, Op.intArith, hr]) hk
end
end Go.Proofs.YtpenicjlpiechaaDoor.Wd
namespace Go.Proofs.YtpenicjlpiechaaDoor.Wd
set_option maxRecDepth 10000
open Go Go.RowKit
set_option linter.unusedVariables false
section
variable {P : Program} {ops : Array Oper} {rest : List Oper} {a : Act} {w : World} {Q : Exit → Act → World → Prop} {dst : Option Tmp} {ty yt : TypeId} {pos : String} {aft : Array Edge} {gd : Option (Nat × Bool)} {K : Value → World → Prop}
theorem at_bld {t : TypeId} {ps : Array (Nat × Operand)} (d : Tmp) (h : wpList P ops Q (⟨some d, .build t ps, ty, pos, aft, gd⟩ :: rest) a w) : wpList P ops Q (⟨some d, .build t ps, ty, pos, aft, gd⟩ :: rest) a w := h
theorem at_cnv {t t' : TypeId} {x : Operand} (d : Tmp) (h : wpList P ops Q (⟨some d, .convert t t' x, ty, pos, aft, gd⟩ :: rest) a w) : wpList P ops Q (⟨some d, .convert t t' x, ty, pos, aft, gd⟩ :: rest) a w := h
end
theorem kf54 (vs : Array Value) (w : World) : (callFunc 54 vs).run Tryd.prog w = .ok (.enter 54 vs) w := by go_simp
end Go.Proofs.YtpenicjlpiechaaDoor.Wd
namespace Go.Proofs.YtpenicjlpiechaaDoor.Wd
set_option maxRecDepth 10000
open Go Go.RowKit
set_option linter.unusedVariables false

set_option maxRecDepth 10000 in
set_option maxHeartbeats 4000000 in
theorem wholes_any (P Q M : Int) (w : World) (hP : In128 P) (hQ : Hid (P / 1000000000 = Q)) (hM : Hid (P % 1000000000 = M)) :
    Calls Tryd.prog 74 #[.agg (nl P).toArray] w fun e w' => e = .returned (.agg (nl Q).toArray) ∧ Below w.heap.size w w' := by
  go_enter Tryd.func74, Tryd.ntmps74
  go_wp2_with (first
    | ((with_reducible refine at_boxD 1 60 ?_); refine L_box 60 _ (nl (P)) rfl ?_; intro w1 t_ b_p; have l_p : w.heap.size ≤ w.heap.size := Nat.le_refl _; have hB : Below w.heap.size w w1 := t_.below (Below.refl _ _) (Nat.le_refl _); clear t_)
    | ((with_reducible refine at_allocD 2 60 ?_); refine L_alloc 60 (nl (0)) zeroN ?_; intro w2 t_ b_r; have l_r : w.heap.size ≤ w1.heap.size := hB.size; have o_r := b_p.lt; replace b_p := t_.blk b_p (by omega); replace hB := t_.below hB l_r; clear t_)
    | ((with_reducible refine at_loadD 7 60 ?_); refine L_load_all 60 _ (w.heap.size) (nl (P)) 60 _ rfl b_p Tryd.underlying60 rfl (szN 0) ?_))
  refine (div_any P 1000000000 w2 hP (by omega) (by omega) Q M hQ hM).mono ?_
  rintro e w3 ⟨rfl, t_⟩
  replace b_p := b_p.below t_ b_p.lt
  replace b_r := b_r.below t_ b_r.lt
  replace hB := hB.trans (t_.mono hB.size)
  clear t_
  go_wp2_with (first
    | ((with_reducible refine at_allocD 3 60 ?_); refine L_alloc 60 (nl (0)) zeroN ?_; intro w4 t_ b_n; have l_n : w.heap.size ≤ w3.heap.size := hB.size; have o_n := b_r.lt; replace b_p := t_.blk b_p (by omega); replace b_r := t_.blk b_r (by omega); replace hB := t_.below hB l_n; clear t_)
    | ((with_reducible refine at_storeX 3 60 ?_); refine L_store_all 60 _ _ (w3.heap.size) (nl (Q)) _ 60 rfl rfl b_n (szN 0) (rfl) (one_nl _) ?_; have b0_n := b_n; clear b_n; intro w5 t_ b_n; replace b_p := t_.blk b_p (by omega); replace b_r := t_.blk b_r (by omega); replace hB := t_.below hB l_n; clear t_ b0_n)
    | ((with_reducible refine at_loadD 12 60 ?_); refine L_load_all 60 _ (w3.heap.size) (nl (Q)) 60 _ rfl b_n Tryd.underlying60 rfl (szN 0) ?_)
    | ((with_reducible refine at_storeX 2 60 ?_); refine L_store_all 60 _ _ (w1.heap.size) (nl (Q)) _ 60 rfl rfl b_r (szN 0) (rfl) (one_nl _) ?_; have b0_r := b_r; clear b_r; intro w6 t_ b_r; replace b_p := t_.blk b_p (by omega); replace b_n := t_.blk b_n (by omega); replace hB := t_.below hB l_r; clear t_ b0_r))
  exact bodyPost_ret (results_blk rfl _ (nl Q) _ rfl b_r Tryd.underlying60 rfl (szN 0)) rfl ⟨rfl, hB⟩

/-- May a clock have this rate? -/
def Ok (q : Int) : Prop := -100000000 ≤ q ∧ q ≤ 100000000
end Go.Proofs.YtpenicjlpiechaaDoor.Wd
namespace Go.Proofs.YtpenicjlpiechaaDoor.Wd
set_option maxRecDepth 10000
open Go Go.RowKit
set_option linter.unusedVariables false

section
variable {P : Program} {ops : Array Oper} {rest : List Oper} {a : Act} {w : World} {Q : Exit → Act → World → Prop} {dst : Option Tmp} {ty yt : TypeId} {pos : String} {aft : Array Edge} {gd : Option (Nat × Bool)} {K : Value → World → Prop}
theorem at_buildD {t : TypeId} {ps : Array (Nat × Operand)} {n : Nat} (d : Tmp) (h : wpList P ops Q (⟨some d, .buildSlice t n ps, ty, pos, aft, none⟩ :: rest) a w) : wpList P ops Q (⟨some d, .buildSlice t n ps, ty, pos, aft, none⟩ :: rest) a w := h
end
end Go.Proofs.YtpenicjlpiechaaDoor.Wd
namespace Go.Proofs.YtpenicjlpiechaaDoor.Wd
set_option maxRecDepth 10000
open Go Go.RowKit
set_option linter.unusedVariables false

/-- What a clock shows. -/
def shw (f s r t : Int) : Int := s + (t - f) + (t - f) * r / 1000000000
/-- A number, if it has 64 bits, and an error. -/
def wh (z : Int) : Int × Int := if -9223372036854775808 ≤ z ∧ z < 9223372036854775808 then (z, 0) else (0, 6)
/-- What is read of a clock, and an error. -/
def rd (f s r t : Int) : Int × Int := if t < f then (0, 1) else if t - f < 9223372036854775808 then wh (shw f s r t) else (0, 6)
theorem wh_in (z : Int) (h : In64 z) : wh z = (z, 0) := by unfold In64 at h; unfold wh; rw [if_pos h]
theorem wh_out (z : Int) (h : ¬ In64 z) : wh z = (0, 6) := by unfold In64 at h; unfold wh; rw [if_neg h]
theorem wh_64 (z : Int) : In64 (wh z).1 := by
  unfold wh; split
  · assumption
  · unfold In64; omega
theorem int_any (z V E : Int) (w : World) (h : Hid (wh z = (V, E))) :
    Calls Tryd.prog 25 #[.agg (nl z).toArray] w fun e w' => e = .returned (.tuple #[.int .i64 V, .int .i64 E]) ∧ Below w.heap.size w w' := by
  have h := h.out
  by_cases hz : In64 z
  · rw [wh_in z hz] at h
    cases h
    exact int_ok z w hz
  · rw [wh_out z hz] at h
    cases h
    exact int_over z w hz
end Go.Proofs.YtpenicjlpiechaaDoor.Wd
namespace Go.Proofs.YtpenicjlpiechaaDoor.Wd
set_option maxRecDepth 10000
open Go Go.RowKit
set_option linter.unusedVariables false

/-- A clock from t on, that shows by more, and an error. -/
def anw (f s r t b q : Int) : Int × Int × Int × Int := if (rd f s r t).2 = 0 then (if (wh ((rd f s r t).1 + b)).2 = 0 then (t, (wh ((rd f s r t).1 + b)).1, q, 0) else (0, 0, 0, (wh ((rd f s r t).1 + b)).2)) else (0, 0, 0, (rd f s r t).2)
/-- A clock of another rate, and an error. -/
def trn (f s r t q : Int) : Int × Int × Int × Int := if -100000000 ≤ q ∧ q ≤ 100000000 then anw f s r t 0 q else (0, 0, 0, 3)
/-- How much a clock may be wrong, and an error. -/
def grw (n q : Int) : Int × Int := if n < 0 ∨ q < 0 then (0, 1) else wh ((n * q + 999999999) / 1000000000)

set_option maxRecDepth 10000 in
set_option maxHeartbeats 4000000 in
set_option maxRecDepth 10000 in
set_option maxHeartbeats 4000000 in
set_option maxRecDepth 10000 in
set_option maxHeartbeats 4000000 in
set_option maxRecDepth 10000 in
set_option maxHeartbeats 4000000 in
set_option maxRecDepth 10000 in
set_option maxHeartbeats 4000000 in
set_option maxRecDepth 10000 in
set_option maxHeartbeats 4000000 in
set_option maxRecDepth 10000 in
set_option maxHeartbeats 4000000 in
theorem grown_a (n q : Int) (w : World) (h0 : n < 0) :
    Calls Tryd.prog 54 #[.int .i64 n, .int .i64 q] w fun e w' => e = .returned (.tuple #[.int .i64 (0), .int .i64 (1)]) ∧ Below w.heap.size w w' := by
  go_enter Tryd.func54, Tryd.ntmps54
  go_wp2_with (first
    | ((with_reducible refine at_binD 9 ?_); refine L_give (by rfl) (g_ilss 2 _ _ .i64 _ _ true rfl rfl (decide_eq_true h0) ?_)))
  go_ret2
  exact ⟨rfl, Below.refl _ _⟩

set_option maxRecDepth 10000 in
set_option maxHeartbeats 4000000 in
theorem grown_b (n q : Int) (w : World) (h0 : ¬ n < 0) (h1 : q < 0) :
    Calls Tryd.prog 54 #[.int .i64 n, .int .i64 q] w fun e w' => e = .returned (.tuple #[.int .i64 (0), .int .i64 (1)]) ∧ Below w.heap.size w w' := by
  go_enter Tryd.func54, Tryd.ntmps54
  go_wp2_with (first
    | ((with_reducible refine at_binD 9 ?_); refine L_give (by rfl) (g_ilss 2 _ _ .i64 _ _ false rfl rfl (decide_eq_false h0) ?_))
    | ((with_reducible refine at_binD 12 ?_); refine L_give (by rfl) (g_ilss 2 _ _ .i64 _ _ true rfl rfl (decide_eq_true h1) ?_)))
  go_ret2
  exact ⟨rfl, Below.refl _ _⟩

set_option maxRecDepth 10000 in
set_option maxHeartbeats 4000000 in
theorem grown_in (n q P A Q M V E : Int) (w : World) (h0 : ¬ n < 0) (h1 : ¬ q < 0) (hn : In64 n) (hq : In64 q) (hP : Hid (n * q = P)) (j9 : In64 999999999) (i9 : In128 999999999) (iP : In128 P) (iA : In128 A) (hA : Hid (P + 999999999 = A)) (hQ : Hid (A / 1000000000 = Q)) (hM : Hid (A % 1000000000 = M)) (hV : Hid (wh Q = (V, E))) :
    Calls Tryd.prog 54 #[.int .i64 n, .int .i64 q] w fun e w' => e = .returned (.tuple #[.int .i64 (V), .int .i64 (E)]) ∧ Below w.heap.size w w' := by
  go_enter Tryd.func54, Tryd.ntmps54
  go_wp2_with (first
    | ((with_reducible refine at_binD 9 ?_); refine L_give (by rfl) (g_ilss 2 _ _ .i64 _ _ false rfl rfl (decide_eq_false h0) ?_))
    | ((with_reducible refine at_binD 12 ?_); refine L_give (by rfl) (g_ilss 2 _ _ .i64 _ _ false rfl rfl (decide_eq_false h1) ?_)))
  refine (times_l n q P hP w hn hq).mono ?_
  rintro e w1 ⟨rfl, t_⟩
  have hB := t_
  clear t_
  go_wp2_with fail
  refine (of_any 999999999 w1 j9).mono ?_
  rintro e w2 ⟨rfl, t_⟩
  replace hB := hB.trans (t_.mono hB.size)
  clear t_
  go_wp2_with fail
  refine (add_l P 999999999 A w2 iP i9 iA hA).mono ?_
  rintro e w3 ⟨rfl, t_⟩
  replace hB := hB.trans (t_.mono hB.size)
  clear t_
  go_wp2_with (first
    | ((with_reducible refine at_allocD 6 60 ?_); refine L_alloc 60 (nl (0)) zeroN ?_; intro w4 t_ b_p; have l_p : w.heap.size ≤ w3.heap.size := hB.size; replace hB := t_.below hB l_p; clear t_)
    | ((with_reducible refine at_storeX 6 60 ?_); refine L_store_all 60 _ _ (w3.heap.size) (nl (A)) _ 60 rfl rfl b_p (szN 0) (rfl) (one_nl _) ?_; have b0_p := b_p; clear b_p; intro w5 t_ b_p; replace hB := t_.below hB l_p; clear t_ b0_p)
    | ((with_reducible refine at_loadD 22 60 ?_); refine L_load_all 60 _ (w3.heap.size) (nl (A)) 60 _ rfl b_p Tryd.underlying60 rfl (szN 0) ?_))
  refine (wholes_any A Q M w5 iA hQ hM).mono ?_
  rintro e w6 ⟨rfl, t_⟩
  replace b_p := b_p.below t_ b_p.lt
  replace hB := hB.trans (t_.mono hB.size)
  clear t_
  go_wp2_with fail
  refine (int_any Q V E w6 hV).mono ?_
  rintro e w7 ⟨rfl, t_⟩
  replace b_p := b_p.below t_ b_p.lt
  replace hB := hB.trans (t_.mono hB.size)
  clear t_
  go_wp2_with fail
  go_ret2
  exact ⟨rfl, hB⟩

theorem grown_any (n q V E : Int) (w : World) (hn : In64 n) (hq : In64 q) (h : Hid (grw n q = (V, E))) :
    Calls Tryd.prog 54 #[.int .i64 n, .int .i64 q] w fun e w' => e = .returned (.tuple #[.int .i64 V, .int .i64 E]) ∧ Below w.heap.size w w' := by
  have h := h.out
  unfold grw at h
  split at h
  · rename_i h0
    cases h
    by_cases h1 : n < 0
    · exact grown_a n q w h1
    · exact grown_b n q w h1 (by omega)
  · rename_i h0
    have hb := prod_bound n q hn hq
    exact grown_in n q _ _ _ _ V E w (by omega) (by omega) hn hq rfl (by unfold In64; omega) (by unfold In128; omega) (by unfold In128; omega) (by unfold In128; omega) rfl rfl rfl h

end Go.Proofs.YtpenicjlpiechaaDoor.Wd
