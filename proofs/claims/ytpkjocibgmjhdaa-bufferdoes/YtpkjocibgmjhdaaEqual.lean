/- '==' on two arrays of bytes: whether they hold the same bytes. Over any program. -/
import Derived.Test.YtpkjocibgmjhdaaGives
import Derived.Test.YtpkjocibgmjhdaaMath
import Derived.Laws.StructEq
namespace Go.Proofs.Ytpkjocibgmjhdaa
set_option maxRecDepth 10000
open Go Go.RowKit
variable {P : Program}
theorem equal_loop (e : TypeId) (d : Nat) (he : P.underlying e = some (.int .u8)) (ha : ∀ w, (isAgg e).run P w = .ok false w) (l m : List UInt8) (hm : m.length = l.length) (w : World) :
    ∀ (k i : Nat), i + k = l.length →
    (forIn (List.range' i k) ((none, ()) : Option Bool × Unit) fun i _ => do
            let a ← part e (bc l).toArray (i * 1)
            let b ← part e (bc m).toArray (i * 1)
            let r ← Op.equalIn (d + 1) e a b
            if (!r) = true then pure (ForInStep.done (some false, ())) else pure (ForInStep.yield (none, ()))).run P w =
      .ok (if l.drop i = m.drop i then (none, ()) else (some false, ())) w
  | 0, i, hi => by
    rw [List.drop_eq_nil_of_le (by omega), List.drop_eq_nil_of_le (by omega)]
    simp
  | k + 1, i, hi => by
    have h1 : (bc l)[i]? = some (.int .u8 ((l[i]'(by omega)).toNat : Int)) := by simp [bc, show i < l.length by omega]
    have h2 : (bc m)[i]? = some (.int .u8 ((m[i]'(by omega)).toNat : Int)) := by simp [bc, show i < m.length by omega]
    have p1 : (part e (bc l).toArray (i * 1)).run P w = .ok (.int .u8 ((l[i]'(by omega)).toNat : Int)) w := by simp [part, ha, h1]
    have p2 : (part e (bc m).toArray (i * 1)).run P w = .ok (.int .u8 ((m[i]'(by omega)).toNat : Int)) w := by simp [part, ha, h2]
    have ih := equal_loop e d he ha l m hm w k (i + 1) (by omega)
    rw [List.range'_succ, List.forIn_cons]
    rw [List.drop_eq_getElem_cons (l := l) (by omega), List.drop_eq_getElem_cons (l := m) (by omega)]
    simp only [Sem.run_bind, p1, p2, Result.andThen_ok, run_equalIn_int w d e .u8 .u8 _ _ he]
    by_cases hc : l[i]'(by omega) = m[i]'(by omega)
    · have hc' : (((l[i]'(by omega)).toNat : Int) == ((m[i]'(by omega)).toNat : Int)) = true := by simp [hc]
      simp only [hc', Bool.not_true, Bool.false_eq_true, if_false, Sem.run_pure, Result.andThen_ok]
      rw [ih]
      simp only [hc, List.cons.injEq, true_and]
    · have hc' : (((l[i]'(by omega)).toNat : Int) == ((m[i]'(by omega)).toNat : Int)) = false := by
        simp only [beq_eq_false_iff_ne, ne_eq]
        intro h
        exact hc (UInt8.toNat_inj.1 (by omega))
      simp only [hc', Bool.not_false, if_true, Sem.run_pure, Result.andThen_ok, List.cons.injEq, hc, false_and, if_false]
theorem run_equal (w : World) (t e : TypeId) (n : Nat) (l m : List UInt8) (hu : P.underlying t = some (.array n e)) (he : P.underlying e = some (.int .u8)) (hs : ∀ w, (sizeOf e).run P w = .ok 1 w) (ha : ∀ w, (isAgg e).run P w = .ok false w) (hl : l.length = n) (hm : m.length = n) :
    (Op.equal t (.agg (bc l).toArray) (.agg (bc m).toArray)).run P w = .ok (decide (l = m)) w := by
  have h : ∀ d, (Op.equalIn (d + 1 + 1) t (.agg (bc l).toArray) (.agg (bc m).toArray)).run P w = .ok (decide (l = m)) w := by
    intro d
    rw [Op.equalIn]
    simp only [Sem.run_bind, run_underlying hu, Result.andThen_ok, hs, Std.Legacy.Range.forIn_eq_forIn_range', Std.Legacy.Range.size, Nat.sub_zero, Nat.add_sub_cancel, Nat.div_one]
    rw [equal_loop e d he ha l m (by omega) w n 0 (by omega)]
    by_cases hc : l = m <;> simp [hc]
  exact h 9998
section
variable {ops : Array Oper} {rest : List Oper} {a : Act} {w : World} {Q : Exit → Act → World → Prop} {dst : Option Tmp} {ty yt : TypeId} {pos : String} {aft : Array Edge} {gd : Option (Nat × Bool)} {K : Value → World → Prop}
theorem at_eql {x y : Operand} (t : TypeId) (h : wpList P ops Q (⟨dst, .binOp .eql t x y yt, ty, pos, aft, gd⟩ :: rest) a w) : wpList P ops Q (⟨dst, .binOp .eql t x y yt, ty, pos, aft, gd⟩ :: rest) a w := h
/-- What '==' runs to, on two arrays of bytes. -/
theorem run_eql (w : World) (a : Act) (t e : TypeId) (x y : Operand) (n : Nat) (l m : List UInt8) (hx : a.eval x = .agg (bc l).toArray) (hy : a.eval y = .agg (bc m).toArray) (hg : P.eqGuardType P.depth t = false)
    (hu : P.underlying t = some (.array n e)) (he : P.underlying e = some (.int .u8)) (hs : ∀ w, (sizeOf e).run P w = .ok 1 w) (ha : ∀ w, (isAgg e).run P w = .ok false w) (hl : l.length = n) (hm : m.length = n) :
    (execOp a.eval ⟨dst, .binOp .eql t x y yt, ty, pos, aft, gd⟩).run P w = .ok (.value (.bool (decide (l = m)))) w := by
  have h := run_equal w t e n l m hu he hs ha hl hm
  simp [execOp, hx, hy, eqGuard, hg, binOp, h]
theorem g_seql (t : TypeId) (x y : Operand) (s : ByteArray) (hx : a.eval x = .string s) (hy : a.eval y = .string s) (hk : K (.bool true) w) : gives P ⟨dst, .binOp .eql t x y yt, ty, pos, aft, gd⟩ a w K :=
  g_val (.bool true) w (by simp [execOp, hx, hy, eqGuard, binOp, Op.stringOp]) hk
theorem g_ieql (t : TypeId) (x y : Operand) (k : IntKind) (n : Int) (hx : a.eval x = .int k n) (hy : a.eval y = .int k n) (hk : K (.bool true) w) : gives P ⟨dst, .binOp .eql t x y yt, ty, pos, aft, gd⟩ a w K :=
  g_val (.bool true) w (by simp [execOp, hx, hy, eqGuard, binOp, Op.intCmp]) hk
theorem g_pick (c x y : Operand) (v : Value) (hc : a.eval c = .bool true) (hx : a.eval x = v) (hk : K v w) : gives P ⟨dst, .pick c x y, ty, pos, aft, gd⟩ a w K :=
  g_val v w (by simp [execOp, hc, hx, asBool]) hk
theorem g_iadd (t : TypeId) (x y : Operand) (p q r : Int) (hx : a.eval x = .int .i64 p) (hy : a.eval y = .int .i64 q) (hr : IntKind.i64.wrap (p + q) = r) (hk : K (.int .i64 r) w) : gives P ⟨dst, .binOp .add t x y yt, ty, pos, aft, gd⟩ a w K :=
  g_val (.int .i64 r) w (by simp [execOp, hx, hy, eqGuard, binOp, Op.intArith, hr]) hk
theorem g_ineg (t : TypeId) (x : Operand) (p r : Int) (hx : a.eval x = .int .i64 p) (hr : IntKind.i64.wrap (-p) = r) (hk : K (.int .i64 r) w) : gives P ⟨dst, .unOp .neg t x, ty, pos, aft, gd⟩ a w K :=
  g_val (.int .i64 r) w (by simp [execOp, hx, Op.unary, Op.intArith, hr]) hk
theorem g_sadd (t : TypeId) (x y : Operand) (p q r : ByteArray) (hx : a.eval x = .string p) (hy : a.eval y = .string q) (hr : p ++ q = r) (hs : p.size + q.size ≤ 1099511627776) (hk : K (.string r) w) : gives P ⟨dst, .binOp .add t x y yt, ty, pos, aft, gd⟩ a w K :=
  g_val (.string r) w (by simp [execOp, hx, hy, eqGuard, binOp, Op.stringOp, hr]; omega) hk
/-- An operation that its guard wants. -/
theorem gw {ops : Array Oper} {o : Oper} (hw : Region.wanted o (yielded ops a.tmps) = true) (h : gives P o a w K) : givesW P ops o a w K := by
  unfold givesW; rw [if_pos hw]; exact h
theorem g_eql (t e : TypeId) (x y : Operand) (n : Nat) (l m : List UInt8) (hx : a.eval x = .agg (bc l).toArray) (hy : a.eval y = .agg (bc m).toArray) (hg : P.eqGuardType P.depth t = false)
    (hu : P.underlying t = some (.array n e)) (he : P.underlying e = some (.int .u8)) (hs : ∀ w, (sizeOf e).run P w = .ok 1 w) (ha : ∀ w, (isAgg e).run P w = .ok false w) (hl : l.length = n) (hm : m.length = n)
    (hk : K (.bool (decide (l = m))) w) : gives P ⟨dst, .binOp .eql t x y yt, ty, pos, aft, gd⟩ a w K :=
  g_val _ _ (run_eql w a t e x y n l m hx hy hg hu he hs ha hl hm) hk
end
end Go.Proofs.Ytpkjocibgmjhdaa
