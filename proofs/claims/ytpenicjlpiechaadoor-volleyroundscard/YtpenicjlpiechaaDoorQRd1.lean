/- What the reference's whole and shows answer (numbers below 2^200; clocks and moments of 64 bits); nothing that was there is changed. -/
import Derived.Test.YtpenicjlpiechaaDoorQRefDiv
import Derived.Test.YtpenicjlpiechaaDoorQDrG
namespace Go.Proofs.YtpenicjlpiechaaDoor.Wd
set_option maxRecDepth 10000
open Go Go.RowKit
set_option linter.unusedVariables false

/-- A pair of numbers of the reference. -/
def RP (w : World) (u : Value) (y z : Int) : Prop := ∃ a b, u = .tuple #[a, b] ∧ RN w a y ∧ RN w b z
theorem RP.below {w w' : World} {u : Value} {y z : Int} (h : RP w u y z) (hb : Below w.heap.size w w') : RP w' u y z := by
  obtain ⟨a, b, h1, h2, h3⟩ := h
  exact ⟨a, b, h1, h2.below hb, h3.below hb⟩
theorem RP.turn {w w' : World} {u : Value} {y z : Int} {b : Nat} {cs : List Value} {t : TypeId} (h : RP w u y z) (ht : Turn b w w') (hb : Blk w b cs t) (hn : t ≠ 4) : RP w' u y z := by
  obtain ⟨a, c, h1, h2, h3⟩ := h
  exact ⟨a, c, h1, h2.turn ht hb hn, h3.turn ht hb hn⟩
theorem fit63 (z : Int) (h : In64 z) : Hid (decide (-((2 : Int) ^ 63) ≤ z ∧ z < (2 : Int) ^ 63) = true) := decide_eq_true h
theorem nofit63 (z : Int) (h : ¬ In64 z) : Hid (decide (-((2 : Int) ^ 63) ≤ z ∧ z < (2 : Int) ^ 63) = false) := decide_eq_false h

set_option maxRecDepth 10000 in
set_option maxHeartbeats 4000000 in
theorem rwhole_in (sa : Bool) (ba : Value) (z h l : Int) (w : World) (ra : RF w sa ba z) (fz : Few z 200) (iz : In128 z) (hh : Hid (z / 18446744073709551616 = h)) (hl : Hid (z % 18446744073709551616 = l)) (hw_ : Hid (IntKind.i64.wrap l = z)) (hfi : Hid (decide (-((2 : Int) ^ 63) ≤ z ∧ z < (2 : Int) ^ 63) = true)) :
    Calls Tryd.prog 60 #[.agg #[.bool sa, ba]] w fun e w' => e = .returned (.tuple #[.int .i64 (z), .int .i64 (0)]) ∧ Below w.heap.size w w' := by
  go_enter Tryd.func60, Tryd.ntmps60
  go_wp2_with (first
    | ((with_reducible refine at_boxD 1 72 ?_); refine L_box 72 _ ([.bool sa, ba]) rfl ?_; intro w1 t_ b_n; have l_n : w.heap.size ≤ w.heap.size := Nat.le_refl _; replace ra := ra.below t_.toBelow; have hB : Below w.heap.size w w1 := t_.below (Below.refl _ _) (Nat.le_refl _); clear t_)
    | ((with_reducible refine at_loadD 6 72 ?_); refine L_load_all 72 _ (w.heap.size) ([.bool sa, ba]) 72 _ rfl b_n Tryd.underlying72 rfl (szR) ?_))
  refine (fits_any _ z 63 w1 true ⟨_, _, rfl, ra⟩ fz hfi).mono ?_
  rintro e w2 ⟨rfl, t_⟩
  replace ra := ra.below t_
  replace b_n := b_n.below t_ b_n.lt
  replace hB := hB.trans (t_.mono hB.size)
  clear t_
  go_wp2_with (first
    | ((with_reducible refine at_loadD 10 72 ?_); refine L_load_all 72 _ (w.heap.size) ([.bool sa, ba]) 72 _ rfl b_n Tryd.underlying72 rfl (szR) ?_))
  refine (wide_any _ z h l w2 ⟨_, _, rfl, ra⟩ iz hh hl).mono ?_
  rintro e w3 ⟨rfl, t_⟩
  replace ra := ra.below t_
  replace b_n := b_n.below t_ b_n.lt
  replace hB := hB.trans (t_.mono hB.size)
  clear t_
  go_wp2_with (first
    | ((with_reducible refine at_cnv 15 ?_); refine L_give (by rfl) (g_cv64 _ _ _ rfl hw_.out ?_)))
  go_ret2
  exact ⟨rfl, hB⟩

set_option maxRecDepth 10000 in
set_option maxHeartbeats 4000000 in
theorem rwhole_out (sa : Bool) (ba : Value) (z : Int) (w : World) (ra : RF w sa ba z) (fz : Few z 200) (hfi : Hid (decide (-((2 : Int) ^ 63) ≤ z ∧ z < (2 : Int) ^ 63) = false)) :
    Calls Tryd.prog 60 #[.agg #[.bool sa, ba]] w fun e w' => e = .returned (.tuple #[.int .i64 (0), .int .i64 (6)]) ∧ Below w.heap.size w w' := by
  go_enter Tryd.func60, Tryd.ntmps60
  go_wp2_with (first
    | ((with_reducible refine at_boxD 1 72 ?_); refine L_box 72 _ ([.bool sa, ba]) rfl ?_; intro w1 t_ b_n; have l_n : w.heap.size ≤ w.heap.size := Nat.le_refl _; replace ra := ra.below t_.toBelow; have hB : Below w.heap.size w w1 := t_.below (Below.refl _ _) (Nat.le_refl _); clear t_)
    | ((with_reducible refine at_loadD 6 72 ?_); refine L_load_all 72 _ (w.heap.size) ([.bool sa, ba]) 72 _ rfl b_n Tryd.underlying72 rfl (szR) ?_))
  refine (fits_any _ z 63 w1 false ⟨_, _, rfl, ra⟩ fz hfi).mono ?_
  rintro e w2 ⟨rfl, t_⟩
  replace ra := ra.below t_
  replace b_n := b_n.below t_ b_n.lt
  replace hB := hB.trans (t_.mono hB.size)
  clear t_
  go_wp2_with fail
  go_ret2
  exact ⟨rfl, hB⟩

theorem rwhole_any (u : Value) (z V E : Int) (w : World) (hu : RN w u z) (fz : Few z 200) (h : Hid (wh z = (V, E))) :
    Calls Tryd.prog 60 #[u] w fun e w' => e = .returned (.tuple #[.int .i64 V, .int .i64 E]) ∧ Below w.heap.size w w' := by
  obtain ⟨sa, ba, rfl, ra⟩ := hu
  have h := h.out
  by_cases hz : In64 z
  · rw [wh_in z hz] at h
    cases h
    have hz' := hz
    unfold In64 at hz'
    exact rwhole_in sa ba z _ _ w ra fz hz.to rfl rfl (by show _ = _; rw [IntKind.wrap_i64]; omega) (fit63 z hz)
  · rw [wh_out z hz] at h
    cases h
    exact rwhole_out sa ba z w ra fz (nofit63 z hz)

set_option maxRecDepth 10000 in
set_option maxHeartbeats 4000000 in
theorem few64 (z : Int) (h : In64 z) : Few z 200 := by unfold In64 at h; exact few128 _ (by omega)
end Go.Proofs.YtpenicjlpiechaaDoor.Wd
