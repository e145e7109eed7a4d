/- What single operations yield: what is left of a division, numbers of another kind, the greater of two. What is read, turned, stepped and grown where it may be told: numbers alone. -/
import Derived.Test.YtpenicjlpiechaaDoorQWide6
namespace Go.Proofs.YtpenicjlpiechaaDoor.Wd
set_option maxRecDepth 10000
open Go Go.RowKit
set_option linter.unusedVariables false

section
variable {P : Program} {ops : Array Oper} {rest : List Oper} {a : Act} {w : World} {Q : Exit → Act → World → Prop} {dst : Option Tmp} {ty yt : TypeId} {pos : String} {aft : Array Edge} {gd : Option (Nat × Bool)} {K : Value → World → Prop}
theorem g_cv64 (x : Operand) (p r : Int) (hx : a.eval x = .int .u64 p) (hr : IntKind.i64.wrap p = r) (hk : K (.int .i64 r) w) : gives Tryd.prog ⟨dst, .convert 34 2 x, ty, pos, aft, gd⟩ a w K :=
  g_val (.int .i64 r) w (by simp only [execOp, hx]; go_simp) hk
end
end Go.Proofs.YtpenicjlpiechaaDoor.Wd
namespace Go.Proofs.YtpenicjlpiechaaDoor.Wd
set_option maxRecDepth 10000
open Go Go.RowKit
set_option linter.unusedVariables false

theorem w64 (n : Int) (h : In64 n) : IntKind.i64.wrap n = n := by unfold In64 at h; rw [IntKind.wrap_i64]; omega
end Go.Proofs.YtpenicjlpiechaaDoor.Wd
