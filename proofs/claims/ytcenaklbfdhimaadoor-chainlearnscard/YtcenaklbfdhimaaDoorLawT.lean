/- '!=' of keys, the answer written out. -/
import Derived.Test.YtcenaklbfdhimaaDoorLawS
import Derived.WalkKit
import Derived.WalkSpells
import Derived.WalkLawsBesides
namespace Go.Proofs.YtcenaklbfdhimaaDoor
open Go Go.RowKit
set_option linter.unusedVariables false
set_option linter.unusedSimpArgs false

section
variable {a : Act} {w : World} {dst : Option Tmp} {ty yt : TypeId} {pos : String} {aft : Array Edge} {gd : Option (Nat × Bool)} {K : Value → World → Prop}
theorem g_nK (x y : Operand) (k m : Ky) (b r : Bool) (hx : a.eval x = .agg (kc k).toArray) (hy : a.eval y = .agg (kc m).toArray) (hb : decide (k.l = m.l) = b) (hr : (!b) = r) (hk : K (.bool r) w) : gives Tryd.prog ⟨dst, .binOp .neq 23 x y yt, ty, pos, aft, gd⟩ a w K :=
  g_neqK x y k m b hx hy hb (by subst hr; exact hk)
end
end Go.Proofs.YtcenaklbfdhimaaDoor
