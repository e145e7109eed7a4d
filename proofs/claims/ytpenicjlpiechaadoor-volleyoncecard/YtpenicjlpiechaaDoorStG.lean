/- What single operations yield: sums, differences and what is turned about, of numbers. -/
import Derived.Test.YtpenicjlpiechaaDoorWd
namespace Go.Proofs.YtpenicjlpiechaaDoor.Wd
set_option maxRecDepth 10000
open Go Go.RowKit
section
variable {P : Program} {a : Act} {w : World} {dst : Option Tmp} {ty yt : TypeId} {pos : String} {aft : Array Edge} {gd : Option (Nat × Bool)} {K : Value → World → Prop}
theorem g_iadd (t : TypeId) (x y : Operand) (k : IntKind) (p q r : Int) (hx : a.eval x = .int k p) (hy : a.eval y = .int k q) (hr : k.wrap (p + q) = r) (hk : K (.int k r) w) : gives P ⟨dst, .binOp .add t x y yt, ty, pos, aft, gd⟩ a w K :=
  g_val (.int k r) w (by simp [execOp, hx, hy, eqGuard, binOp, Op.intArith, hr]) hk
theorem g_isub (t : TypeId) (x y : Operand) (k : IntKind) (p q r : Int) (hx : a.eval x = .int k p) (hy : a.eval y = .int k q) (hr : k.wrap (p - q) = r) (hk : K (.int k r) w) : gives P ⟨dst, .binOp .sub t x y yt, ty, pos, aft, gd⟩ a w K :=
  g_val (.int k r) w (by simp [execOp, hx, hy, eqGuard, binOp, Op.intArith, hr]) hk
theorem g_ineg (t : TypeId) (x : Operand) (k : IntKind) (p r : Int) (hx : a.eval x = .int k p) (hr : k.wrap (-p) = r) (hk : K (.int k r) w) : gives P ⟨dst, .unOp .neg t x, ty, pos, aft, gd⟩ a w K :=
  g_val (.int k r) w (by simp [execOp, hx, Op.unary, Op.intArith, hr]) hk
end
end Go.Proofs.YtpenicjlpiechaaDoor.Wd
