/- What the engine of RunG knows at this seat. -/
import Derived.Test.YtpenicjlpiechaaDoorQVoOps
import Derived.Test.YtpenicjlpiechaaDoorQRunG
namespace Go.Proofs.YtpenicjlpiechaaDoor
set_option maxRecDepth 10000
open Go Go.RowKit
set_option linter.unusedVariables false
set_option linter.unusedSimpArgs false

def knf : TypeId → Bool
  | 2 => true
  | 3 => true
  | 4 => true
  | 5 => true
  | 9 => true
  | 25 => true
  | 34 => true
  | 48 => true
  | 63 => true
  | 89 => true
  | _ => false
def kng : TypeId → Nat → Option Nat
  | 23, 0 => some 0
  | 23, 1 => some 1
  | 23, 2 => some 2
  | 28, 0 => some 0
  | 28, 2 => some 2
  | 60, 0 => some 0
  | 60, 1 => some 1
  | 91, 0 => some 0
  | 91, 1 => some 1
  | 91, 2 => some 2
  | 91, 3 => some 3
  | _, _ => none
def kn : Kn Tryd.prog where
  f := knf
  g := kng
  hf := by
    intro t h
    unfold knf at h
    split at h
    · exact ld2
    · exact ld3
    · exact ld4
    · exact ld5
    · exact ld9
    · exact ld25
    · exact ld34
    · exact ld48
    · exact ld63
    · exact ld89
    · cases h
  hg := by
    intro s i k h
    unfold kng at h
    split at h
    · cases h; exact faSm0
    · cases h; exact faSm1
    · cases h; exact faSm2
    · cases h; exact faRs0
    · cases h; exact faRs2
    · cases h; exact faNm0
    · cases h; exact faNm1
    · cases h; exact fa91_0
    · cases h; exact fa91_1
    · cases h; exact fa91_2
    · cases h; exact fa91_3
    · cases h
theorem kx : kn.f 2 = true ∧ kn.f 3 = true ∧ kn.f 4 = true ∧ kn.f 5 = true ∧ kn.f 9 = true ∧ kn.f 23 = false ∧ kn.f 25 = true ∧ kn.f 28 = false ∧ kn.f 34 = true ∧ kn.f 36 = false ∧ kn.f 42 = false ∧ kn.f 48 = true ∧ kn.f 56 = false ∧ kn.f 60 = false ∧ kn.f 63 = true ∧ kn.f 70 = false ∧ kn.f 72 = false ∧ kn.f 88 = false ∧ kn.f 89 = true ∧ kn.f 113 = false ∧ kn.f 132 = false ∧ kn.f 134 = false ∧ kn.f 136 = false ∧ kn.f 144 = false ∧ kn.f 149 = false ∧ kn.g 23 0 = some 0 ∧ kn.g 23 1 = some 1 ∧ kn.g 23 2 = some 2 ∧ kn.g 28 0 = some 0 ∧ kn.g 28 2 = some 2 ∧ kn.g 36 0 = none ∧ kn.g 36 1 = none ∧ kn.g 36 2 = none ∧ kn.g 60 0 = some 0 ∧ kn.g 60 1 = some 1 ∧ kn.g 72 0 = none ∧ kn.g 72 1 = none ∧ kn.g 91 0 = some 0 ∧ kn.g 91 1 = some 1 ∧ kn.g 91 2 = some 2 ∧ kn.g 91 3 = some 3 ∧ kn.g 136 0 = none ∧ kn.g 136 1 = none ∧ kn.g 136 2 = none ∧ kn.g 151 0 = none ∧ kn.g 151 1 = none := ⟨rfl, rfl, rfl, rfl, rfl, rfl, rfl, rfl, rfl, rfl, rfl, rfl, rfl, rfl, rfl, rfl, rfl, rfl, rfl, rfl, rfl, rfl, rfl, rfl, rfl, rfl, rfl, rfl, rfl, rfl, rfl, rfl, rfl, rfl, rfl, rfl, rfl, rfl, rfl, rfl, rfl, rfl, rfl, rfl, rfl, rfl⟩
end Go.Proofs.YtpenicjlpiechaaDoor
