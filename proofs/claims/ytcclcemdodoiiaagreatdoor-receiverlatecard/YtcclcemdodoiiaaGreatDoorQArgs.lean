/- Plans, slices of texts, bools and bytes as arguments: opened. -/
import Derived.Test.YtcclcemdodoiiaaGreatDoorQSdOps
import Derived.Test.YtcclcemdodoiiaaGreatDoorQLaid
import Derived.Test.YtcclcemdodoiiaaGreatDoorQLib
import Derived.OpenShut
import Derived.ShutString
import Derived.Deep.Slices
import Derived.Carry
import Derived.SizedLaws
namespace Go.Proofs.YtcclcemdodoiiaaGreatDoor
set_option maxRecDepth 10000
open Go Go.RowKit Go.ChangeShapes Go.WideShapes
set_option linter.unusedVariables false
set_option linter.unusedSimpArgs false
theorem wf_i64 (n : Int) (h : (Lit.int .i64 n).wf = true) : -9223372036854775808 ≤ n ∧ n ≤ 9223372036854775807 := by
  simp [Lit.wf, IntKind.min, IntKind.max, IntKind.signed, IntKind.bits] at h
  omega
theorem wf_u16 (n : Int) (h : (Lit.int .u16 n).wf = true) : 0 ≤ n ∧ n < 65536 := by
  simp [Lit.wf, IntKind.min, IntKind.max, IntKind.signed, IntKind.bits] at h
  omega
/-- A slice of values of one cell each, in memory; each is as it may be. -/
def LV (Ok : Value → Prop) (w : World) (ao : Option Addr) (n : Nat) : Prop := ∀ j, j < n → ∃ b o v, ao = some ⟨b, o, none⟩ ∧ w.cell? ⟨b, o + j, none⟩ = some v ∧ Ok v
theorem LV.on {Ok : Value → Prop} {u w : World} {L : List HP} {ao : Option Addr} {n : Nat} (h : LV Ok u ao n) (hM : Ms u w L) : LV Ok w ao n := fun j hj => by
  obtain ⟨b, o, v, e, hcell, hv⟩ := h j hj
  exact ⟨b, o, v, e, (hM.below.cell (p := ⟨b, o + j, none⟩) (World.block_lt_of_cell? u _ hcell)).trans hcell, hv⟩
theorem celA2 : Tryz.prog.cellsOf 2 = 1 := by kernel_rfl
theorem celA3 : Tryz.prog.cellsOf 3 = 1 := by kernel_rfl
theorem celA25 : Tryz.prog.cellsOf 25 = 4 := by kernel_rfl
variable {H : Type} {enc : TypeId × Value → H} {w : World}
variable {base : Nat} {spare : Nat → Bool} {held : Bool}
theorem open_plan {r : Reach} {b0 : Nat} {v : Value} {d : DataW H} {p : List MemPlace} (hv : Value.okWide Tryz.prog w r b0 25 v) (h : DataW.Trod enc Tryz.prog w base spare held 25 v d p) : ∃ P : Pl, v = .agg (plc P).toArray ∧ p = [] ∧ PIn P := by
  simp only [Value.okWide, Tryz.underlying25] at hv
  obtain ⟨cs, rfl, _, _⟩ := hv
  obtain ⟨fuel, hf⟩ := h
  obtain ⟨xs, m, _, hx, hl, hlen, hg⟩ := DataW.trod_struct Tryz.underlying25 hf
  match xs, hlen with
  | [y0, y1, y2, y3], _ =>
    obtain ⟨k0, c0, rfl, g0⟩ := DataW.trod_int Tryz.underlying2 (hg 0 _ rfl)
    obtain ⟨k1, c1, rfl, g1⟩ := DataW.trod_int Tryz.underlying2 (hg 1 _ rfl)
    obtain ⟨k2, c2, rfl, g2⟩ := DataW.trod_int Tryz.underlying3 (hg 2 _ rfl)
    obtain ⟨k3, c3, rfl, g3⟩ := DataW.trod_int Tryz.underlying3 (hg 3 _ rfl)
    rw [celA25] at hl
    replace c0 : ((Value.agg cs).cells.toList.drop 0).take (Tryz.prog.cellsOf 2) = [.int .i64 k0] := c0
    replace c1 : ((Value.agg cs).cells.toList.drop 1).take (Tryz.prog.cellsOf 2) = [.int .i64 k1] := c1
    replace c2 : ((Value.agg cs).cells.toList.drop 2).take (Tryz.prog.cellsOf 3) = [.int .i64 k2] := c2
    replace c3 : ((Value.agg cs).cells.toList.drop 3).take (Tryz.prog.cellsOf 3) = [.int .i64 k3] := c3
    simp only [celA2, celA3] at c0 c1 c2 c3
    have hcs : (Value.agg cs).cells.toList = plc ⟨k0, k1, k2, k3⟩ := by
      generalize (Value.agg cs).cells.toList = l at hl c0 c1 c2 c3
      match l, hl with
      | [a0, a1, a2, a3], _ =>
        simp at c0 c1 c2 c3
        rw [c0, c1, c2, c3]; rfl
    refine ⟨⟨k0, k1, k2, k3⟩, ?_, ?_, ⟨wf_i64 _ g0, wf_i64 _ g1, wf_i64 _ g2, wf_i64 _ g3⟩⟩
    · congr 1
      apply Array.toList_inj.1
      simpa [Value.cells] using hcs
    · simp only [Prod.mk.injEq] at hx
      rw [hx.2]; rfl
end Go.Proofs.YtcclcemdodoiiaaGreatDoor
