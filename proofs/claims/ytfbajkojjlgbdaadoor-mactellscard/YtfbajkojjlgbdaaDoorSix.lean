/- Bytes in sixteens as plain lists; lengths of keys and states as the program has them; calls among the operations of a statement. -/
import Derived.Test.YtfbajkojjlgbdaaDoorShaW5
import Derived.Test.YtfbajkojjlgbdaaDoorEqual
namespace Go.Proofs.YtfbajkojjlgbdaaDoor
open Go.RowKit
set_option linter.unusedVariables false
/-! ### Hex -/
def dgs : List UInt8 := [48, 49, 50, 51, 52, 53, 54, 55, 56, 57, 97, 98, 99, 100, 101, 102]
/-- A byte in sixteens. -/
def hx2 (b : UInt8) : List UInt8 := [dgs.getD (b.toNat / 16) 0, dgs.getD (b.toNat % 16) 0]
def hexL (k : List UInt8) : List UInt8 := k.flatMap hx2
theorem hexL_length (k : List UInt8) : (hexL k).length = 2 * k.length := by
  induction k with
  | nil => rfl
  | cons b k ih => rw [hexL, List.flatMap_cons, List.length_append]; unfold hexL at ih; rw [ih]; simp [hx2]; omega
/-- What Hex has laid after j rounds. -/
def hpl (k : List UInt8) (j : Nat) : List UInt8 := hexL (k.take j) ++ List.replicate (64 - 2 * j) 0
theorem hpl_length (k : List UInt8) (j : Nat) (hk : k.length = 32) (hj : j ≤ 32) : (hpl k j).length = 64 := by
  rw [hpl, List.length_append, hexL_length, List.length_take, List.length_replicate]; omega
theorem hpl_end (k : List UInt8) (hk : k.length = 32) : hpl k 32 = hexL k := by rw [hpl, List.take_of_length_le (by omega)]; simp
theorem hpl_step (k : List UInt8) (j : Nat) (hk : k.length = 32) (hj : j < 32) (b : UInt8) (hb : k.getD j 0 = b) :
    ((hpl k j).set (2 * j) (dgs.getD (b.toNat / 16) 0)).set (2 * j + 1) (dgs.getD (b.toNat % 16) 0) = hpl k (j + 1) := by
  have hb2 : k[j]'(by omega) = b := by rw [← hb]; simp [show j < k.length by omega]
  have hl : (hexL (k.take j)).length = 2 * j := by rw [hexL_length, List.length_take]; omega
  rw [hpl, hpl, List.set_append_right _ _ (by omega), List.set_append_right _ _ (by omega), hl, Nat.sub_self, show 2 * j + 1 - 2 * j = 1 by omega, show 64 - 2 * j = (64 - 2 * (j + 1)) + 1 + 1 by omega, List.replicate_succ, List.replicate_succ]
  rw [List.set_cons_zero, List.set_cons_succ, List.set_cons_zero, List.take_succ_eq_append_getElem (by omega), hb2]
  simp [hexL, hx2]
theorem bc_set (l : List UInt8) (i : Nat) (b : UInt8) : (bc l).set i (.int .u8 b.toNat) = bc (l.set i b) := by simp [bc]
theorem bc_at (l : List UInt8) (i : Nat) (h : i < l.length) : (bc l)[i]? = some (.int .u8 ((l.getD i 0).toNat : Int)) := by simp [bc, h]
theorem guard23 : Tryd.prog.eqGuardType Tryd.prog.depth 23 = false := Tryd.eqGuardType23
theorem zk23 (k : List UInt8) (hk : k.length = 32) : (Tryd.prog.info? 23).map (·.size) = some (bc k).length := by rw [bc_length, hk]; exact size23
theorem zs47 (s : St) (h : s.Ok) : (Tryd.prog.info? 47).map (·.size) = some (stc s).length := by rw [stc_length s h]; exact size47
/-- Calls as the operations of a statement meet them: the value known, the world in the class. -/
theorem mono_val {f : FuncId} {vs : Array Value} {w W : World} {x : Value} (hw : Below W.heap.size W w) (h : Calls Tryd.prog f vs w fun e w' => e = .returned x ∧ Below w.heap.size w w') :
    Calls Tryd.prog f vs w (fun e w'' => ∃ v, e = .returned v ∧ (v = x ∧ Below W.heap.size W w'')) := by
  refine h.mono ?_
  rintro e w' ⟨rfl, hb⟩
  exact ⟨_, rfl, rfl, hw.trans (hb.mono hw.size)⟩
end Go.Proofs.YtfbajkojjlgbdaaDoor
