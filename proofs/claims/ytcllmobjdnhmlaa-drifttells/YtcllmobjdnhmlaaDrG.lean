/- What single operations yield: what is left of a division, numbers of another kind, the greater of two. -/
import Derived.Test.YtcllmobjdnhmlaaAwake
namespace Go.Proofs.Ytcllmobjdnhmlaa
open Go Go.RowKit
set_option linter.unusedVariables false

section
variable {P : Program} {ops : Array Oper} {rest : List Oper} {a : Act} {w : World} {Q : Exit → Act → World → Prop} {dst : Option Tmp} {ty yt : TypeId} {pos : String} {aft : Array Edge} {gd : Option (Nat × Bool)} {K : Value → World → Prop}
theorem at_unD {x : Operand} {b : UnOp} {t : TypeId} (d : Tmp) (h : wpList P ops Q (⟨some d, .unOp b t x, ty, pos, aft, gd⟩ :: rest) a w) : wpList P ops Q (⟨some d, .unOp b t x, ty, pos, aft, gd⟩ :: rest) a w := h
theorem g_irem (t : TypeId) (x y : Operand) (k : IntKind) (p q r : Int) (hx : a.eval x = .int k p) (hy : a.eval y = .int k q) (hq : q ≠ 0) (hr : p.tmod q = r) (hk : K (.int k r) w) : gives P ⟨dst, .binOp .rem t x y yt, ty, pos, aft, gd⟩ a w K :=
  g_val (.int k r) w (by simp [execOp, hx, hy, eqGuard, binOp, Op.intDiv, hr, hq]) hk
theorem g_cv32 (x : Operand) (p r : Int) (hx : a.eval x = .int .u32 p) (hr : IntKind.i64.wrap p = r) (hk : K (.int .i64 r) w) : gives Try.prog ⟨dst, .convert 38 2 x, ty, pos, aft, gd⟩ a w K :=
  g_val (.int .i64 r) w (by simp only [execOp, hx]; go_simp) hk
theorem g_cv16 (x : Operand) (p r : Int) (hx : a.eval x = .int .u16 p) (hr : IntKind.i64.wrap p = r) (hk : K (.int .i64 r) w) : gives Try.prog ⟨dst, .convert 40 2 x, ty, pos, aft, gd⟩ a w K :=
  g_val (.int .i64 r) w (by simp only [execOp, hx]; go_simp) hk
theorem g_cv64 (x : Operand) (p r : Int) (hx : a.eval x = .int .u64 p) (hr : IntKind.i64.wrap p = r) (hk : K (.int .i64 r) w) : gives Try.prog ⟨dst, .convert 41 2 x, ty, pos, aft, gd⟩ a w K :=
  g_val (.int .i64 r) w (by simp only [execOp, hx]; go_simp) hk
theorem g_max (x y : Operand) (p q r : Int) (hx : a.eval x = .int .i64 p) (hy : a.eval y = .int .i64 q) (hr : (if p < q then q else p) = r) (hk : K (.int .i64 r) w) : gives Try.prog ⟨dst, .call { callee := .builtin .max, args := #[x, y], argTypes := #[2, 2] }, ty, pos, aft, gd⟩ a w K :=
  g_val (.int .i64 r) w (by simp only [execOp, resolve, invoke, builtin, List.map_toArray, List.map_cons, List.map_nil, hx, hy]; go_simp) hk
end
theorem wf_u16 (n : Int) : (Lit.int .u16 n).wf = true ↔ 0 ≤ n ∧ n < 65536 := by
  simp [Lit.wf, IntKind.min, IntKind.max, IntKind.signed, IntKind.bits]
  omega

end Go.Proofs.Ytcllmobjdnhmlaa
