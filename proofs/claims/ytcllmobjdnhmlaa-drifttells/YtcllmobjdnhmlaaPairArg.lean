/- A structure of two numbers as an argument: opened, and shut again. -/
import Derived.OpenShut
import Derived.ProofKit
import Derived.ChangeSame
import Derived.Test.YtcllmobjdnhmlaaWide1
namespace Go.Proofs.Ytcllmobjdnhmlaa
open Go Go.ChangeShapes Go.WideShapes
variable {H : Type} {enc : TypeId × Value → H} {w : World} {base : Nat} {spare : Nat → Bool} {held : Bool}
/-- A wide number as data. -/
def nd (z : Int) : DataW H := .agg [.lit (.int .i64 (z / 18446744073709551616)), .lit (.int .u64 (z % 18446744073709551616))]
theorem cellsN : Try.prog.cellsOf 47 = 2 := by kernel_rfl
theorem cells2 : Try.prog.cellsOf 2 = 1 := by kernel_rfl
theorem cells22 : Try.prog.cellsOf 41 = 1 := by kernel_rfl
theorem wf_i64 (n : Int) : (Lit.int .i64 n).wf = true ↔ In64 n := by
  simp [Lit.wf, IntKind.min, IntKind.max, IntKind.signed, IntKind.bits, In64]
  omega
theorem wf_u64 (n : Int) : (Lit.int .u64 n).wf = true ↔ 0 ≤ n ∧ n < 18446744073709551616 := by
  simp [Lit.wf, IntKind.min, IntKind.max, IntKind.signed, IntKind.bits]
  omega
theorem wf_u32 (n : Int) : (Lit.int .u32 n).wf = true ↔ 0 ≤ n ∧ n < 4294967296 := by
  simp [Lit.wf, IntKind.min, IntKind.max, IntKind.signed, IntKind.bits]
  omega
theorem open_num {r : Reach} {b0 : Nat} {v : Value} {d : DataW H} {p : List MemPlace} (hv : Value.okWide Try.prog w r b0 47 v) (h : DataW.Trod enc Try.prog w base spare held 47 v d p) : ∃ z : Int, v = .agg (nl z).toArray ∧ d = nd z ∧ p = [] ∧ In128 z := by
  simp only [Value.okWide, Try.underlying47] at hv
  obtain ⟨cs, rfl, _, _⟩ := hv
  obtain ⟨fuel, hf⟩ := h
  obtain ⟨y0, y1, m, hx, hl, h0, h1⟩ := trod_struct2 Try.underlying47 hf
  obtain ⟨k0, c0, rfl, f0⟩ := DataW.trod_int Try.underlying2 h0
  obtain ⟨k1, c1, rfl, f1⟩ := DataW.trod_int Try.underlying41 h1
  rw [cellsN] at hl
  simp only [cells2] at c0
  simp only [cells22] at c1
  have g0 := (wf_i64 k0).1 f0
  have g1 := (wf_u64 k1).1 f1
  unfold In64 at g0
  have hcs : (Value.agg cs).cells.toList = [.int .i64 k0, .int .u64 k1] := by
    generalize (Value.agg cs).cells.toList = l at hl c0 c1
    match l, hl with
    | [x, y], _ => simp at c0 c1; rw [c0, c1]
  have hn : Value.agg (nl (k0 * 18446744073709551616 + k1)).toArray = .agg #[.int .i64 k0, .int .u64 k1] := nl_mk _ k0 k1 g1.1 g1.2 rfl
  refine ⟨k0 * 18446744073709551616 + k1, ?_, ?_, ?_, ?_⟩
  · rw [hn]
    congr 1
    apply Array.toList_inj.1
    simpa [Value.cells] using hcs
  · simp only [Prod.mk.injEq] at hx
    rw [hx.1, nd, show (k0 * 18446744073709551616 + k1) / 18446744073709551616 = k0 by omega, show (k0 * 18446744073709551616 + k1) % 18446744073709551616 = k1 by omega]
  · simp only [Prod.mk.injEq] at hx
    rw [hx.2]; rfl
  · unfold In128; omega
theorem shut_num {z : Int} (hz : In128 z) : DataW.Trod enc Try.prog w base spare held 47 (.agg (nl z).toArray) (nd z) [] := by
  unfold In128 at hz
  have h1 : (Value.agg (nl z).toArray).cells.toList = nl z := by simp [Value.cells]
  refine ⟨2, ?_⟩
  rw [h1]
  have a0 := trod_int_mk (enc := enc) (P := Try.prog) (w := w) (base := base) (spare := spare) (held := held) 0 Try.underlying2 ((wf_i64 (z / 18446744073709551616)).2 (by unfold In64; omega))
  have a1 := trod_int_mk (enc := enc) (P := Try.prog) (w := w) (base := base) (spare := spare) (held := held) 0 Try.underlying41 ((wf_u64 (z % 18446744073709551616)).2 (by omega))
  exact trod_struct2_mk (enc := enc) (P := Try.prog) (w := w) (base := base) (spare := spare) (held := held) (n := 1) (cs := nl z) (y0 := (.lit (.int .i64 (z / 18446744073709551616)), [])) (y1 := (.lit (.int .u64 (z % 18446744073709551616)), [])) Try.underlying47 (by rw [cellsN]; rfl) (by simp only [cells2]; exact a0) (by simp only [cells22]; exact a1)
end Go.Proofs.Ytcllmobjdnhmlaa
