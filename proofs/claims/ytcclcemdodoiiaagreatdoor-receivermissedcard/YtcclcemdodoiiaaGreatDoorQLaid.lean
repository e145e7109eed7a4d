/- What the rows' list of tables gives: the two tables' cells; and a world for the witness. Arrays of bytes as arguments: opened, and shut again. -/
import Derived.Test.YtcclcemdodoiiaaGreatDoorQShaMath
import Derived.Test.YtcclcemdodoiiaaGreatDoorQBas
import Derived.ProofKit
import Derived.OpenShut
import Derived.ShutString
import Derived.Deep.DeepHandedRow
import Derived.Lib.LaidTab
import Derived.Stop.LaidErr
namespace Go.Proofs.YtcclcemdodoiiaaGreatDoor
set_option maxRecDepth 10000
open Go.ChangeShapes Go.WideShapes Go.ChangeAt Go.RowKit
theorem cells157 : Tryz.prog.cellsOf 157 = 1 := by kernel_rfl
theorem cells192 : Tryz.prog.cellsOf 192 = 8 := by kernel_rfl
theorem cells217 : Tryz.prog.cellsOf 217 = 64 := by kernel_rfl
theorem cells5 : Tryz.prog.cellsOf 5 = 1 := by kernel_rfl
theorem cells23 : Tryz.prog.cellsOf 23 = 32 := by kernel_rfl
theorem laid_is : Rows.receiverLateRow.laid = [((Rows.receiverLateRow.laid.map (·.1)).getD 0 default, Lib.tabData .u32 (start0.map fun x => (x.toNat : Int))), ((Rows.receiverLateRow.laid.map (·.1)).getD 1 default, Lib.tabData .u32 (kon.map fun x => (x.toNat : Int)))] := by kernel_rfl
theorem gS : Tryz.prog.globalNamed ((Rows.receiverLateRow.laid.map (·.1)).getD 0 default) = some 1 := by kernel_rfl
theorem gK : Tryz.prog.globalNamed ((Rows.receiverLateRow.laid.map (·.1)).getD 1 default) = some 0 := by kernel_rfl
theorem gSt : (Tryz.prog.globals[1]?).map (·.type) = some 192 := by kernel_rfl
theorem gKt : (Tryz.prog.globals[0]?).map (·.type) = some 217 := by kernel_rfl
theorem tabs_of {W : World} (h : laidMetH Tryz.prog Rows.receiverLateRow.laid W) : Tabs W := by
  have h0 : laidMet Tryz.prog Rows.receiverLateRow.laid W := h
  rw [laid_is] at h0
  have hs := Lib.tabIs_of_head gS gSt Tryz.underlying192 Tryz.underlying157 cells157 cells192 h0
  have hk := Lib.tabIs_of_head gK gKt Tryz.underlying217 Tryz.underlying157 cells157 cells217 h0.tail
  refine ⟨fun i hi => ?_, fun i hi => ?_⟩
  · have hi' : i < start0.length := hi
    rw [hs.cell gS i (by rw [List.length_map]; exact hi')]
    simp [List.getD, hi']
  · have hi' : i < kon.length := hi
    rw [hk.cell gK i (by rw [List.length_map]; exact hi')]
    simp [List.getD, hi']
/-- The heap of the witness's world: the two tables hold what the program's text lays. -/
def laidHeap (h : Array Obj) : Array Obj :=
  (h.modify 0 fun
    | .cells _ t frozen => .cells (c32 kon).toArray t frozen
    | o => o).modify 1 fun
    | .cells _ t frozen => .cells (c32 start0).toArray t frozen
    | o => o
end Go.Proofs.YtcclcemdodoiiaaGreatDoor
