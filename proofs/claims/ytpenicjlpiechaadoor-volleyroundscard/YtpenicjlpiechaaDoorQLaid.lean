/- What the rows' list of tables gives: the two tables' cells; and a world for the witness. Arrays of bytes as arguments: opened, and shut again. -/
import Derived.Test.YtpenicjlpiechaaDoorQShaMath
import Derived.Test.YtpenicjlpiechaaDoorQBas
import Derived.ProofKit
import Derived.OpenShut
import Derived.ShutString
import Derived.Deep.DeepHandedRow
import Derived.Lib.LaidTab
import Derived.Stop.LaidErr
namespace Go.Proofs.YtpenicjlpiechaaDoor
set_option maxRecDepth 10000
open Go.ChangeShapes Go.WideShapes Go.ChangeAt Go.RowKit
theorem cells56 : Tryd.prog.cellsOf 56 = 1 := by kernel_rfl
theorem cells134 : Tryd.prog.cellsOf 134 = 8 := by kernel_rfl
theorem cells144 : Tryd.prog.cellsOf 144 = 64 := by kernel_rfl
theorem laid_is : Rows.volleyBoundRow.laid = [((Rows.volleyBoundRow.laid.map (·.1)).getD 0 default, Lib.tabData .u32 (start0.map fun x => (x.toNat : Int))), ((Rows.volleyBoundRow.laid.map (·.1)).getD 1 default, Lib.tabData .u32 (kon.map fun x => (x.toNat : Int)))] := by kernel_rfl
theorem gS : Tryd.prog.globalNamed ((Rows.volleyBoundRow.laid.map (·.1)).getD 0 default) = some 1 := by kernel_rfl
theorem gK : Tryd.prog.globalNamed ((Rows.volleyBoundRow.laid.map (·.1)).getD 1 default) = some 0 := by kernel_rfl
theorem gSt : (Tryd.prog.globals[1]?).map (·.type) = some 134 := by kernel_rfl
theorem gKt : (Tryd.prog.globals[0]?).map (·.type) = some 144 := by kernel_rfl
theorem tabs_of {W : World} (h : laidMetH Tryd.prog Rows.volleyBoundRow.laid W) : Tabs W := by
  have h0 : laidMet Tryd.prog Rows.volleyBoundRow.laid W := h
  rw [laid_is] at h0
  have hs := Lib.tabIs_of_head gS gSt Tryd.underlying134 Tryd.underlying56 cells56 cells134 h0
  have hk := Lib.tabIs_of_head gK gKt Tryd.underlying144 Tryd.underlying56 cells56 cells144 h0.tail
  refine ⟨fun i hi => ?_, fun i hi => ?_⟩
  · have hi' : i < start0.length := hi
    rw [hs.cell gS i (by rw [List.length_map]; exact hi')]
    simp [List.getD, hi']
  · have hi' : i < kon.length := hi
    rw [hk.cell gK i (by rw [List.length_map]; exact hi')]
    simp [List.getD, hi']
/-- The heap of the witness's world: the two tables hold what the program's text lays. -/
def laidHeap (h : Array Obj) : Array Obj :=
  (h.modify 0 fun
    | .cells _ t frozen => .cells (c32 kon).toArray t frozen
    | o => o).modify 1 fun
    | .cells _ t frozen => .cells (c32 start0).toArray t frozen
    | o => o
end Go.Proofs.YtpenicjlpiechaaDoor
