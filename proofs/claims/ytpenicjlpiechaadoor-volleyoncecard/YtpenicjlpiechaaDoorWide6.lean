/- What the program's wide.Times, wide.Add and wide.Sub answer, the answer under a name; nothing that was there is changed. -/
import Derived.Test.YtpenicjlpiechaaDoorWd
namespace Go.Proofs.YtpenicjlpiechaaDoor.Wd
set_option maxRecDepth 10000
open Go Go.RowKit
set_option linter.unusedVariables false
theorem times_l (a b M : Int) (hM : Hid (a * b = M)) (w : World) (ha : In64 a) (hb : In64 b) :
    Calls Tryd.prog 73 #[.int .i64 a, .int .i64 b] w fun e w' => e = .returned (.agg (nl M).toArray) ∧ Below w.heap.size w w' := by
  have h := times_any a b w ha hb
  rwa [hM.out] at h
theorem prod_in (a b M : Int) (hM : Hid (a * b = M)) (ha : In64 a) (hb : In64 b) : Hid (In128 M) := by
  have h := prod_bound a b ha hb
  have e := hM.out
  show In128 M
  unfold In128
  omega
theorem add_l (a b s : Int) (w : World) (ha : In128 a) (hb : In128 b) (hs : In128 s) (h : Hid (a + b = s)) :
    Calls Tryd.prog 52 #[.agg (nl a).toArray, .agg (nl b).toArray] w fun e w' => e = .returned (.tuple #[.agg (nl s).toArray, .int .i64 0]) ∧ Below w.heap.size w w' := by
  have e := h.out
  subst e
  exact add_ok a b w ha hb hs
theorem sub_l (a b s : Int) (w : World) (ha : In128 a) (hb : In128 b) (hs : In128 s) (h : Hid (a - b = s)) :
    Calls Tryd.prog 28 #[.agg (nl a).toArray, .agg (nl b).toArray] w fun e w' => e = .returned (.tuple #[.agg (nl s).toArray, .int .i64 0]) ∧ Below w.heap.size w w' := by
  have e := h.out
  subst e
  exact sub_ok a b w ha hb hs
theorem In64.to (n : Int) (h : In64 n) : In128 n := by unfold In64 at h; unfold In128; omega

end Go.Proofs.YtpenicjlpiechaaDoor.Wd
