/- A clock (three numbers) as an argument: opened, and shut again. -/
import Derived.Test.YtcllmobjdnhmlaaPairArg
import Derived.Test.YtcllmobjdnhmlaaDr0
namespace Go.Proofs.Ytcllmobjdnhmlaa
open Go Go.ChangeShapes Go.WideShapes
variable {H : Type} {enc : TypeId × Value → H} {w : World} {base : Nat} {spare : Nat → Bool} {held : Bool}
/-- A clock as data. -/
def cd (f s r : Int) : DataW H := .agg [.lit (.int .i64 f), .lit (.int .i64 s), .lit (.int .i64 r)]
theorem cellsC : Try.prog.cellsOf 23 = 3 := by kernel_rfl
theorem open_clk {r : Reach} {b0 : Nat} {v : Value} {d : DataW H} {p : List MemPlace} (hv : Value.okWide Try.prog w r b0 23 v) (h : DataW.Trod enc Try.prog w base spare held 23 v d p) : ∃ f s q : Int, v = .agg (cl f s q).toArray ∧ d = cd f s q ∧ p = [] ∧ In64 f ∧ In64 s ∧ In64 q := by
  simp only [Value.okWide, Try.underlying23] at hv
  obtain ⟨cs, rfl, _, _⟩ := hv
  obtain ⟨fuel, hf⟩ := h
  obtain ⟨xs, m, _, hx, hl, hlen, hg⟩ := DataW.trod_struct Try.underlying23 hf
  match xs, hlen with
  | [y0, y1, y2], _ =>
    obtain ⟨k0, c0, rfl, g0⟩ := DataW.trod_int Try.underlying2 (hg 0 _ rfl)
    obtain ⟨k1, c1, rfl, g1⟩ := DataW.trod_int Try.underlying2 (hg 1 _ rfl)
    obtain ⟨k2, c2, rfl, g2⟩ := DataW.trod_int Try.underlying2 (hg 2 _ rfl)
    rw [cellsC] at hl
    replace c0 : ((Value.agg cs).cells.toList.drop 0).take (Try.prog.cellsOf 2) = [.int .i64 k0] := c0
    replace c1 : ((Value.agg cs).cells.toList.drop 1).take (Try.prog.cellsOf 2) = [.int .i64 k1] := c1
    replace c2 : ((Value.agg cs).cells.toList.drop 2).take (Try.prog.cellsOf 2) = [.int .i64 k2] := c2
    simp only [cells2] at c0 c1 c2
    have hcs : (Value.agg cs).cells.toList = [.int .i64 k0, .int .i64 k1, .int .i64 k2] := by
      generalize (Value.agg cs).cells.toList = l at hl c0 c1 c2
      match l, hl with
      | [x, y, z], _ => simp at c0 c1 c2; rw [c0, c1, c2]
    refine ⟨k0, k1, k2, ?_, ?_, ?_, (wf_i64 k0).1 g0, (wf_i64 k1).1 g1, (wf_i64 k2).1 g2⟩
    · congr 1
      apply Array.toList_inj.1
      simpa [Value.cells, cl] using hcs
    · simp only [Prod.mk.injEq] at hx
      rw [hx.1]; rfl
    · simp only [Prod.mk.injEq] at hx
      rw [hx.2]; rfl
theorem shut_clk {f s q : Int} (hf : In64 f) (hs : In64 s) (hq : In64 q) : DataW.Trod enc Try.prog w base spare held 23 (.agg (cl f s q).toArray) (cd f s q) [] := by
  have h1 : (Value.agg (cl f s q).toArray).cells.toList = cl f s q := by simp [Value.cells]
  refine ⟨2, ?_⟩
  rw [h1]
  have a : ∀ n, In64 n → DataW.trod enc Try.prog w base spare held 1 2 [.int .i64 n] = some (.lit (.int .i64 n), []) := fun n hn => trod_int_mk 0 Try.underlying2 ((wf_i64 n).2 hn)
  have h := trod_struct_mk (enc := enc) (P := Try.prog) (w := w) (base := base) (spare := spare) (held := held) (n := 1) (cs := cl f s q) (xs := [(.lit (.int .i64 f), []), (.lit (.int .i64 s), []), (.lit (.int .i64 q), [])]) Try.underlying23 (by rw [cellsC]; rfl) (by simp [cells2, cl, a f hf, a s hs, a q hq])
  exact h
end Go.Proofs.Ytcllmobjdnhmlaa
