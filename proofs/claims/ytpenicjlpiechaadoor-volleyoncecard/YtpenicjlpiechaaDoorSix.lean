/- Lengths of keys and states as the program has them; calls among the operations of a statement. -/
import Derived.Test.YtpenicjlpiechaaDoorShaW5
import Derived.Test.YtpenicjlpiechaaDoorLib
namespace Go.Proofs.YtpenicjlpiechaaDoor
set_option maxRecDepth 10000
open Go.RowKit
set_option linter.unusedVariables false
theorem bc_set (l : List UInt8) (i : Nat) (b : UInt8) : (bc l).set i (.int .u8 b.toNat) = bc (l.set i b) := by simp [bc]
theorem bc_at (l : List UInt8) (i : Nat) (h : i < l.length) : (bc l)[i]? = some (.int .u8 ((l.getD i 0).toNat : Int)) := by simp [bc, h]
theorem guard113 : Tryd.prog.eqGuardType Tryd.prog.depth 113 = false := Tryd.eqGuardType113
theorem zk113 (k : List UInt8) (hk : k.length = 32) : (Tryd.prog.info? 113).map (·.size) = some (bc k).length := by rw [bc_length, hk]; exact size113
theorem zs136 (s : St) (h : s.Ok) : (Tryd.prog.info? 136).map (·.size) = some (stc s).length := by rw [stc_length s h]; exact size136
/-- Calls as the operations of a statement meet them: the value known, the world in the class. -/
theorem mono_val {f : FuncId} {vs : Array Value} {w W : World} {x : Value} (hw : Below W.heap.size W w) (h : Calls Tryd.prog f vs w fun e w' => e = .returned x ∧ Below w.heap.size w w') :
    Calls Tryd.prog f vs w (fun e w'' => ∃ v, e = .returned v ∧ (v = x ∧ Below W.heap.size W w'')) := by
  refine h.mono ?_
  rintro e w' ⟨rfl, hb⟩
  exact ⟨_, rfl, rfl, hw.trans (hb.mono hw.size)⟩
end Go.Proofs.YtpenicjlpiechaaDoor
