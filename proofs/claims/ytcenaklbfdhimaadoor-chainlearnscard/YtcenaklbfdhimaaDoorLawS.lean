/- Numbers of the statements of layer 8, and their arguments' bounds. -/
import Derived.Test.YtcenaklbfdhimaaDoorAwake
import Derived.WalkKit
import Derived.WalkSpells
import Derived.WalkLawsBesides
namespace Go.Proofs.YtcenaklbfdhimaaDoor
open Go Go.RowKit
set_option linter.unusedVariables false
set_option linter.unusedSimpArgs false

theorem in_i64 {n : Int} (h : (Lit.int .i64 n).wf = true) : -9223372036854775808 ≤ n ∧ n ≤ 9223372036854775807 := by
  simp [Lit.wf, IntKind.min, IntKind.max, IntKind.signed, IntKind.bits] at h
  omega
theorem in_u16 {n : Int} (h : (Lit.int .u16 n).wf = true) : 0 ≤ n ∧ n < 65536 := by
  simp [Lit.wf, IntKind.min, IntKind.max, IntKind.signed, IntKind.bits] at h
  omega
theorem in_u8 {n : Int} (h : (Lit.int .u8 n).wf = true) : 0 ≤ n ∧ n < 256 := by
  simp [Lit.wf, IntKind.min, IntKind.max, IntKind.signed, IntKind.bits] at h
  omega
theorem wrap_id (n : Int) (h1 : -9223372036854775808 ≤ n) (h2 : n ≤ 9223372036854775807) : IntKind.i64.wrap n = n := by rw [IntKind.wrap_i64]; omega
theorem rem40 (n : Int) (h : 0 ≤ n ∧ n < 256) : 0 ≤ n.tmod 40 ∧ n.tmod 40 < 40 := by
  rw [Int.tmod_eq_emod_of_nonneg h.1]; omega
theorem ck_far (k0 : Ky) (p : Int) (k : Ky) (i f : Int) (h1 : 0 ≤ p) (h2 : p < i) (h3 : f < i - p ∨ 1024 < i - p) : ck k0 p k i f = 16 := by
  unfold ck
  rw [if_neg (by omega), if_pos h3]
theorem ck_near (k0 : Ky) (p : Int) (k : Ky) (i f : Int) (h1 : 0 ≤ p) (h2 : p < i) (h3 : i - p ≤ f) (h4 : i - p ≤ 1024) : ck k0 p k i f = 0 ∨ ck k0 p k i f = 13 := by
  unfold ck
  rw [if_neg (by omega), if_neg (by omega)]
  split
  · exact .inl rfl
  · exact .inr rfl
end Go.Proofs.YtcenaklbfdhimaaDoor
