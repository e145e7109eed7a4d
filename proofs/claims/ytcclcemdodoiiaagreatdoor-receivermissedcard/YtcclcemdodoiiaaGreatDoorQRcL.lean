/- What learning and waiting leave as it was; bounds: no program. -/
import Derived.Test.YtcclcemdodoiiaaGreatDoorQRcM2
namespace Go.Proofs.YtcclcemdodoiiaaGreatDoor
set_option maxRecDepth 10000
open Go Go.RowKit
set_option linter.unusedVariables false
set_option linter.unusedSimpArgs false

theorem lea_same (S : Rc) (k : Ky) (i : Int) : (lea S k i).2 = ⟨S.P, (lea S k i).2.k, (lea S k i).2.n, S.mo, S.x, S.y, S.d, (lea S k i).2.L, (lea S k i).2.B, (lea S k i).2.wr⟩ := by
  unfold lea
  split
  · rfl
  · split
    · rfl
    · split
      · rfl
      · split <;> rfl
theorem wtg_same (S : Rc) (q : Pk) (t : Int) : (wtg S q t).2 = { S with L := (wtg S q t).2.L, d := (wtg S q t).2.d } := by
  unfold wtg
  split
  · rfl
  · split <;> rfl
theorem lea_err {S S1 : Rc} {k : Ky} {i e : Int} {T : List Thg} (h : lea S k i = ((T, e), S1)) (he : e ≠ 0) : S1 = S := by
  unfold lea at h
  split at h
  · cases h; rfl
  · split at h
    · cases h; rfl
    · split at h
      · cases h; rfl
      · split at h
        · cases h; exact absurd rfl he
        · cases h; rfl
end Go.Proofs.YtcclcemdodoiiaaGreatDoor
