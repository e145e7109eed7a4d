/- What the rows' list of tables gives: the two tables' cells; and a world for the witness. Arrays of bytes as arguments: opened, and shut again. -/
import Derived.Test.YthbnlidfgjgncaaDoorShaW1
import Derived.Test.YthbnlidfgjgncaaDoorBytesArg
import Derived.ProofKit
import Derived.OpenShut
import Derived.ShutString
import Derived.Deep.DeepHandedRow
import Derived.Lib.LaidTab
import Derived.Stop.LaidErr
namespace Go.Proofs.YthbnlidfgjgncaaDoor
open Go.ChangeShapes Go.WideShapes Go.ChangeAt Go.RowKit
theorem cells31 : Tryd.prog.cellsOf 31 = 1 := by kernel_rfl
theorem cells32 : Tryd.prog.cellsOf 32 = 8 := by kernel_rfl
theorem cells59 : Tryd.prog.cellsOf 59 = 64 := by kernel_rfl
theorem cells5 : Tryd.prog.cellsOf 5 = 1 := by kernel_rfl
theorem cells24 : Tryd.prog.cellsOf 24 = 32 := by kernel_rfl
theorem laid_is : Rows.shaZeroRow.laid = [((Rows.shaZeroRow.laid.map (·.1)).getD 0 default, Lib.tabData .u32 (start0.map fun x => (x.toNat : Int))), ((Rows.shaZeroRow.laid.map (·.1)).getD 1 default, Lib.tabData .u32 (kon.map fun x => (x.toNat : Int)))] := by kernel_rfl
theorem gS : Tryd.prog.globalNamed ((Rows.shaZeroRow.laid.map (·.1)).getD 0 default) = some 1 := by kernel_rfl
theorem gK : Tryd.prog.globalNamed ((Rows.shaZeroRow.laid.map (·.1)).getD 1 default) = some 0 := by kernel_rfl
theorem gSt : (Tryd.prog.globals[1]?).map (·.type) = some 32 := by kernel_rfl
theorem gKt : (Tryd.prog.globals[0]?).map (·.type) = some 59 := by kernel_rfl
theorem tabs_of {W : World} (h : laidMetH Tryd.prog Rows.shaZeroRow.laid W) : Tabs W := by
  have h0 : laidMet Tryd.prog Rows.shaZeroRow.laid W := h
  rw [laid_is] at h0
  have hs := Lib.tabIs_of_head gS gSt Tryd.underlying32 Tryd.underlying31 cells31 cells32 h0
  have hk := Lib.tabIs_of_head gK gKt Tryd.underlying59 Tryd.underlying31 cells31 cells59 h0.tail
  refine ⟨fun i hi => ?_, fun i hi => ?_⟩
  · have hi' : i < start0.length := hi
    rw [hs.cell gS i (by rw [List.length_map]; exact hi')]
    simp [List.getD, hi']
  · have hi' : i < kon.length := hi
    rw [hk.cell gK i (by rw [List.length_map]; exact hi')]
    simp [List.getD, hi']
/-- The heap of the witness's world: the two tables hold what the program's text lays. -/
def laidHeap (h : Array Obj) : Array Obj :=
  (h.modify 0 fun
    | .cells _ t frozen => .cells (c32 kon).toArray t frozen
    | o => o).modify 1 fun
    | .cells _ t frozen => .cells (c32 start0).toArray t frozen
    | o => o
end Go.Proofs.YthbnlidfgjgncaaDoor
