/- A slice of bools as an argument, and what is read of it. -/
import Derived.Test.YtcenaklbfdhimaaDoorLawT
import Derived.Deep.Slices
import Derived.WalkKit
import Derived.WalkSpells
import Derived.WalkLawsBesides
namespace Go.Proofs.YtcenaklbfdhimaaDoor
open Go Go.RowKit
set_option linter.unusedVariables false
set_option linter.unusedSimpArgs false

/-- A slice of bools, in memory. -/
def LB (w : World) (ao : Option Addr) (n : Nat) (bs : Nat → Bool) : Prop :=
  ∀ j, j < n → ∃ b o, ao = some ⟨b, o, none⟩ ∧ w.cell? ⟨b, o + j, none⟩ = some (.bool (bs j))
theorem LB.below {u w' : World} {ao : Option Addr} {n : Nat} {bs : Nat → Bool} (h : LB u ao n bs) (hb : Below u.heap.size u w') : LB w' ao n bs := fun j hj => by
  obtain ⟨b, o, e, hcell⟩ := h j hj
  exact ⟨b, o, e, (hb.cell (p := ⟨b, o + j, none⟩) (World.block_lt_of_cell? u _ hcell)).trans hcell⟩
theorem run_ixB (w : World) (b o n cap j : Nat) (h : j < n) : (Instr.indexAt 39 (.slice (some ⟨b, o, none⟩) n cap) (.int .i64 j)).run Tryd.prog w = .ok (.pointer (some ⟨b, o + j, none⟩)) w := by
  go_simp
section
variable {P : Program} {ops : Array Oper} {rest : List Oper} {a : Act} {w : World} {Q : Exit → Act → World → Prop} {dst : Option Tmp} {ty yt : TypeId} {pos : String} {aft : Array Edge} {gd : Option (Nat × Bool)} {K : Value → World → Prop}
theorem g_ixB (x y : Operand) (b o n cap j : Nat) (i : Int) (hx : a.eval x = .slice (some ⟨b, o, none⟩) n cap) (hy : a.eval y = .int .i64 i) (hi : i = j) (h : j < n) (hk : K (.pointer (some ⟨b, o + j, none⟩)) w) : gives Tryd.prog ⟨dst, .indexAddr 39 x y, ty, pos, aft, gd⟩ a w K :=
  g_val _ w (by subst hi; simp only [execOp, hx, hy, Sem.run_bind, run_ixB w b o n cap j h, Result.andThen_ok, Sem.run_pure]) hk
theorem at_ixD {t : TypeId} {x y : Operand} (d : Tmp) (h : wpList P ops Q (⟨some d, .indexAddr t x y, ty, pos, aft, gd⟩ :: rest) a w) : wpList P ops Q (⟨some d, .indexAddr t x y, ty, pos, aft, gd⟩ :: rest) a w := h
theorem run_cell4 (w : World) (b o : Nat) (v : Value) (hc : w.cell? ⟨b, o, none⟩ = some v) (x : Operand) (hx : a.eval x = .pointer (some ⟨b, o, none⟩)) : (execOp a.eval ⟨dst, .load 4 x, ty, pos, aft, gd⟩).run Tryd.prog w = .ok (.value v) w := by
  simp only [execOp, hx]
  go_simp
theorem g_cell4 (x : Operand) (b o : Nat) (v : Value) (hx : a.eval x = .pointer (some ⟨b, o, none⟩)) (hc : w.cell? ⟨b, o, none⟩ = some v) (hk : K v w) : gives Tryd.prog ⟨dst, .load 4 x, ty, pos, aft, gd⟩ a w K :=
  g_val v w (run_cell4 w b o v hc x hx) hk
theorem g_fllen (x : Operand) (ao : Option Addr) (n cap : Nat) (hx : a.eval x = .slice ao n cap) (hk : K (.int .i64 ((n : Nat) : Int)) w) : gives Tryd.prog ⟨dst, .call { callee := .builtin .len, args := #[x], argTypes := #[39] }, ty, pos, aft, gd⟩ a w K :=
  g_val (.int .i64 ((n : Nat) : Int)) w (by simp only [execOp, resolve, invoke, builtin, List.map_toArray, List.map_cons, List.map_nil, hx]; go_simp) hk
end
end Go.Proofs.YtcenaklbfdhimaaDoor
