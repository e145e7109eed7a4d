/- What is read, turned, stepped and grown where it may be told: numbers alone. -/
import Derived.Test.YtcllmobjdnhmlaaDrG
namespace Go.Proofs.Ytcllmobjdnhmlaa
open Go Go.RowKit
set_option linter.unusedVariables false

theorem tmod_60 (n : Int) : -1152921504606846976 < n.tmod 1152921504606846976 ∧ n.tmod 1152921504606846976 < 1152921504606846976 := by
  have h1 := Int.tmod_lt_of_pos n (show (0 : Int) < 1152921504606846976 by omega)
  have h2 := Int.lt_tmod_of_pos n (show (0 : Int) < 1152921504606846976 by omega)
  omega
theorem tmod_8 (n : Int) : -100000001 < n.tmod 100000001 ∧ n.tmod 100000001 < 100000001 := by
  have h1 := Int.tmod_lt_of_pos n (show (0 : Int) < 100000001 by omega)
  have h2 := Int.lt_tmod_of_pos n (show (0 : Int) < 100000001 by omega)
  omega
theorem w64 (n : Int) (h : In64 n) : IntKind.i64.wrap n = n := by unfold In64 at h; rw [IntKind.wrap_i64]; omega
theorem prod_8 (n r : Int) (hn : 0 ≤ n) (h1 : -100000000 ≤ r) (h2 : r ≤ 100000000) : -(100000000 * n) ≤ n * r ∧ n * r ≤ 100000000 * n := by
  have e1 : n * (r + 100000000) = n * r + 100000000 * n := by rw [Int.mul_add, Int.mul_comm n 100000000]
  have e2 : n * (100000000 - r) = 100000000 * n - n * r := by rw [Int.mul_sub, Int.mul_comm n 100000000]
  have h3 := Int.mul_nonneg hn (show 0 ≤ r + 100000000 by omega)
  have h4 := Int.mul_nonneg hn (show 0 ≤ 100000000 - r by omega)
  omega
/-- What is read where it may be told. -/
theorem rd_ok (f s r t V : Int) (h1 : f ≤ t) (h2 : t - f < 9223372036854775808) (hV : s + (t - f) + (t - f) * r / 1000000000 = V) (h3 : In64 V) : rd f s r t = (V, 0) := by
  unfold rd
  rw [if_neg (by omega), if_pos h2]
  have : shw f s r t = V := hV
  rw [this, wh_in V h3]
theorem anw_ok (f s r t b q V X : Int) (h1 : rd f s r t = (V, 0)) (h2 : V + b = X) (h3 : In64 X) : anw f s r t b q = (t, X, q, 0) := by
  unfold anw
  rw [h1]
  rw [if_pos rfl, show ((V, (0 : Int)).1 + b) = X from h2, wh_in X h3, if_pos rfl]
theorem trn_ok (f s r t q V : Int) (h0 : -100000000 ≤ q ∧ q ≤ 100000000) (h1 : rd f s r t = (V, 0)) : trn f s r t q = (t, V, q, 0) := by
  unfold trn
  rw [if_pos h0]
  have h3 := rd_64 f s r t
  rw [h1] at h3
  exact anw_ok f s r t 0 q V V h1 (by omega) h3
theorem grw_ok (n q V : Int) (h0 : 0 ≤ n) (h1 : 0 ≤ q) (hV : (n * q + 999999999) / 1000000000 = V) (h3 : In64 V) : grw n q = (V, 0) := by
  unfold grw
  rw [if_neg (by omega), hV, wh_in V h3]

end Go.Proofs.Ytcllmobjdnhmlaa
