/- Numbers, samples and sixteen bytes as arguments: opened. -/
import Derived.Test.YtpenicjlpiechaaDoorQVoOps
import Derived.OpenShut
import Derived.ShutString
import Derived.Carry
import Derived.SizedLaws
namespace Go.Proofs.YtpenicjlpiechaaDoor
set_option maxRecDepth 10000
open Go Go.RowKit Go.ChangeShapes Go.WideShapes
set_option linter.unusedVariables false
set_option linter.unusedSimpArgs false
theorem wf_i64 (n : Int) (h : (Lit.int .i64 n).wf = true) : -9223372036854775808 ≤ n ∧ n < 9223372036854775808 := by
  simp [Lit.wf, IntKind.min, IntKind.max, IntKind.signed, IntKind.bits] at h
  omega
theorem cells2 : Tryd.prog.cellsOf 2 = 1 := by kernel_rfl
theorem cells23 : Tryd.prog.cellsOf 23 = 3 := by kernel_rfl
variable {H : Type} {enc : TypeId × Value → H} {w : World} {base : Nat} {spare : Nat → Bool} {held : Bool}
theorem open_sm {r : Reach} {b0 : Nat} {v : Value} {d : DataW H} {p : List MemPlace} (hv : Value.okWide Tryd.prog w r b0 23 v) (h : DataW.Trod enc Tryd.prog w base spare held 23 v d p) : ∃ o d b : Int, v = .agg (smc o d b).toArray ∧ p = [] ∧ (-9223372036854775808 ≤ o ∧ o < 9223372036854775808) ∧ (-9223372036854775808 ≤ d ∧ d < 9223372036854775808) ∧ (-9223372036854775808 ≤ b ∧ b < 9223372036854775808) := by
  simp only [Value.okWide, Tryd.underlying23] at hv
  obtain ⟨cs, rfl, _, _⟩ := hv
  obtain ⟨fuel, hf⟩ := h
  obtain ⟨xs, m, _, hx, hl, hlen, hg⟩ := DataW.trod_struct Tryd.underlying23 hf
  match xs, hlen with
  | [y0, y1, y2], _ =>
    obtain ⟨k0, c0, rfl, g0⟩ := DataW.trod_int Tryd.underlying2 (hg 0 _ rfl)
    obtain ⟨k1, c1, rfl, g1⟩ := DataW.trod_int Tryd.underlying2 (hg 1 _ rfl)
    obtain ⟨k2, c2, rfl, g2⟩ := DataW.trod_int Tryd.underlying2 (hg 2 _ rfl)
    rw [cells23] at hl
    replace c0 : ((Value.agg cs).cells.toList.drop 0).take (Tryd.prog.cellsOf 2) = [.int .i64 k0] := c0
    replace c1 : ((Value.agg cs).cells.toList.drop 1).take (Tryd.prog.cellsOf 2) = [.int .i64 k1] := c1
    replace c2 : ((Value.agg cs).cells.toList.drop 2).take (Tryd.prog.cellsOf 2) = [.int .i64 k2] := c2
    simp only [cells2] at c0 c1 c2
    have hcs : (Value.agg cs).cells.toList = smc k0 k1 k2 := by
      generalize (Value.agg cs).cells.toList = l at hl c0 c1 c2
      match l, hl with
      | [a0, a1, a2], _ =>
        simp at c0 c1 c2
        rw [c0, c1, c2]; rfl
    refine ⟨k0, k1, k2, ?_, ?_, wf_i64 _ g0, wf_i64 _ g1, wf_i64 _ g2⟩
    · congr 1
      apply Array.toList_inj.1
      simpa [Value.cells] using hcs
    · simp only [Prod.mk.injEq] at hx
      rw [hx.2]; rfl
end Go.Proofs.YtpenicjlpiechaaDoor
