/- What single operations yield: the addresses of a wide number's two fields. -/
import Derived.Test.YtcllmobjdnhmlaaWide4
namespace Go.Proofs.Ytcllmobjdnhmlaa
open Go Go.RowKit
set_option linter.unusedVariables false
section
variable {a : Act} {w : World} {K : Value → World → Prop} {dst : Option Tmp} {ty : TypeId} {pos : String} {aft : Array Edge} {gd : Option (Nat × Bool)}
theorem g_field0 (x : Operand) (b o : Nat) (hx : a.eval x = .pointer (some ⟨b, o, none⟩)) (hk : K (.pointer (some ⟨b, o, none⟩)) w) : gives Try.prog ⟨dst, .fieldAddr 47 x 0, ty, pos, aft, gd⟩ a w K :=
  g_val _ w (by simp only [execOp, hx]; go_simp) hk
theorem g_field1 (x : Operand) (b : Nat) (hx : a.eval x = .pointer (some ⟨b, 0, none⟩)) (hk : K (.pointer (some ⟨b, 1, none⟩)) w) : gives Try.prog ⟨dst, .fieldAddr 47 x 1, ty, pos, aft, gd⟩ a w K :=
  g_val _ w (by simp only [execOp, hx]; go_simp) hk
end
end Go.Proofs.Ytcllmobjdnhmlaa
