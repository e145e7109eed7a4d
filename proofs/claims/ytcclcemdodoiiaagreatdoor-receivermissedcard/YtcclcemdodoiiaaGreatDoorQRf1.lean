/- What the reference's Has, parted, Take and Drop answer. -/
import Derived.Test.YtcclcemdodoiiaaGreatDoorQIvs
namespace Go.Proofs.YtcclcemdodoiiaaGreatDoor
set_option maxRecDepth 10000
open Go Go.RowKit
set_option linter.unusedVariables false
set_option linter.unusedSimpArgs false

theorem tcs_at : ∀ {L : List Thg} {j : Nat} {t : Thg}, L[j]? = some t → (tcs L)[j * 2]? = some (.int .i64 t.1) ∧ (tcs L)[j * 2 + 1]? = some (.string t.2)
  | [], j, t, h => by simp at h
  | u :: L, 0, t, h => by
    obtain rfl : u = t := by simpa using h
    exact ⟨rfl, rfl⟩
  | u :: L, j + 1, t, h => by
    have ih := tcs_at (L := L) (j := j) (t := t) (by simpa using h)
    have e : (j + 1) * 2 = j * 2 + 1 + 1 := by omega
    constructor
    · rw [e]; exact ih.1
    · rw [e]; exact ih.2
section
variable {w0 w : World} {R : List HP} {p : Nat} {x y d : Int} {L : List Thg}
end
end Go.Proofs.YtcclcemdodoiiaaGreatDoor
