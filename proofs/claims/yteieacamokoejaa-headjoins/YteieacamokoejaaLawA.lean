/- Small laws for the walks of the statements. -/
import Derived.Test.YteieacamokoejaaAwake
namespace Go.Proofs.Yteieacamokoejaa
open Go Go.RowKit
set_option linter.unusedVariables false
set_option linter.unusedSimpArgs false

section
variable {P : Program} {ops : Array Oper} {rest : List Oper} {a : Act} {w : World} {Q : Exit → Act → World → Prop} {dst : Option Tmp} {ty yt : TypeId} {pos : String} {aft : Array Edge} {gd : Option (Nat × Bool)} {K : Value → World → Prop}
theorem g_bself (x y : Operand) (p : Bool) (hx : a.eval x = .bool p) (hy : a.eval y = .bool p) (hk : K (.bool true) w) : gives Try.prog ⟨dst, .binOp .eql 4 x y yt, ty, pos, aft, gd⟩ a w K :=
  g_beql x y p p hx hy (by rw [beq_self_eq_true]; exact hk)
end
theorem pt_ok (h : Hd) (hm : may h = true) : pt h = (⟨(hb h).toArray⟩, 0) := by unfold pt; rw [if_pos hm]
theorem pt_bad (h : Hd) (hm : may h = false) : pt h = (ByteArray.empty, 2) := by unfold pt; rw [if_neg (by rw [hm]; decide)]
theorem tk_hb (h : Hd) (hm : may h = true) (hi : InH h) : tk ⟨(hb h).toArray⟩ = (h, 0) := by
  have m := of_decide_eq_true hm
  have e : (⟨(hb h).toArray⟩ : ByteArray).data.toList = hb h := by simp
  unfold tk
  rw [if_pos (by rw [size_toArray, hb_length]), e, dec_hb h m hi, if_pos m.1]
theorem tk_ok (s : ByteArray) (G : Hd) (h : tk s = (G, 0)) : may G = true ∧ InH G ∧ (⟨(hb G).toArray⟩ : ByteArray) = s := by
  have hl := Lib.size_eq s
  unfold tk at h
  split at h
  · rename_i hs
    split at h
    · rename_i hv
      obtain ⟨rfl, _⟩ := Prod.mk.inj h
      refine ⟨by rw [may_dec]; exact decide_eq_true hv, dec_in _, ?_⟩
      rw [hb_dec _ (by omega)]
    · cases (Prod.mk.inj h).2
  · cases (Prod.mk.inj h).2
theorem tk_bad (s : ByteArray) (G : Hd) (E : Int) (h : tk s = (G, E)) (hE : E ≠ 0) : G = hz := by
  unfold tk at h
  split at h
  · split at h
    · obtain ⟨rfl, rfl⟩ := Prod.mk.inj h; exact absurd rfl hE
    · obtain ⟨rfl, rfl⟩ := Prod.mk.inj h; rfl
  · obtain ⟨rfl, rfl⟩ := Prod.mk.inj h; rfl
end Go.Proofs.Yteieacamokoejaa
