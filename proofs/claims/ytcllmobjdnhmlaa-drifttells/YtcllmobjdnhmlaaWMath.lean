/- Numbers: bits turned over, a bit set, and the long division's step. No program here. -/
import Derived.WalkKit
import Derived.Laws.Bits64b
import Derived.Below
namespace Go.Proofs.Ytcllmobjdnhmlaa
open Go Go.RowKit
theorem ofInt64_toNat (a : Int) : ((BitVec.ofInt 64 a).toNat : Int) = a % 18446744073709551616 := by
  rw [BitVec.toNat_ofInt]
  omega
theorem not_i64 (a : Int) (h0 : -9223372036854775808 ≤ a) (h1 : a < 9223372036854775808) : bits .xor .i64 (-1) a = -1 - a := by
  show IntKind.i64.wrap ((BitVec.ofInt 64 (-1) ^^^ BitVec.ofInt 64 a).toNat : Int) = _
  have e : BitVec.ofInt 64 (-1) = BitVec.allOnes 64 := by decide
  have h := ofInt64_toNat a
  rw [e, BitVec.allOnes_xor, BitVec.toNat_not, IntKind.wrap_i64]
  have := (BitVec.ofInt 64 a).isLt
  omega
theorem not_u64 (a : Int) (h0 : 0 ≤ a) (h1 : a < 18446744073709551616) : bits .xor .u64 IntKind.u64.max a = 18446744073709551615 - a := by
  have em : IntKind.u64.max = 18446744073709551615 := by decide
  rw [em]
  show IntKind.u64.wrap ((BitVec.ofInt 64 18446744073709551615 ^^^ BitVec.ofInt 64 a).toNat : Int) = _
  have e : BitVec.ofInt 64 18446744073709551615 = BitVec.allOnes 64 := by decide
  have h := ofInt64_toNat a
  rw [e, BitVec.allOnes_xor, BitVec.toNat_not, IntKind.wrap_u64]
  have := (BitVec.ofInt 64 a).isLt
  omega
theorem nat_or_bit (a b : Nat) (ha : a % 2 = 0) (hb : b ≤ 1) : a ||| b = a + b := by
  obtain ⟨c, rfl⟩ : ∃ c, a = 2 ^ 1 * c := ⟨a / 2, by omega⟩
  rw [← Nat.two_pow_add_eq_or_of_lt (by omega)]
theorem or_u64 (a b : Int) (h0 : 0 ≤ a) (h1 : a < 18446744073709551616) (h2 : a % 2 = 0) (hb0 : 0 ≤ b) (hb : b ≤ 1) : bits .or .u64 a b = a + b := by
  obtain ⟨x, rfl⟩ := Int.eq_ofNat_of_zero_le h0
  obtain ⟨y, rfl⟩ := Int.eq_ofNat_of_zero_le hb0
  rw [bits_or_u64_nat x y (by omega) (by omega), nat_or_bit x y (by omega) (by omega)]
  omega
theorem or_i64 (a b : Int) (h0 : -9223372036854775808 ≤ a) (h1 : a < 9223372036854775808) (h2 : a % 2 = 0) (hb0 : 0 ≤ b) (hb : b ≤ 1) : bits .or .i64 a b = a + b := by
  show IntKind.i64.wrap ((BitVec.ofInt 64 a ||| BitVec.ofInt 64 b).toNat : Int) = _
  have ha' := ofInt64_toNat a
  have hb' := ofInt64_toNat b
  rw [BitVec.toNat_or, nat_or_bit _ _ (by omega) (by omega), IntKind.wrap_i64]
  omega
/-- Behind k rounds of the long division of A by B: the part so far lies in the lowest bits of the number, the bits of A that are still to come in the highest ones; r is left. -/
def PR (A B k : Nat) (H L r : Int) : Prop := ∃ q t U m : Nat, r = m ∧ m < B ∧ q < 2 ^ k ∧ t < 2 ^ (128 - k) ∧ U = t * 2 ^ k + q ∧ A = (q * B + m) * 2 ^ (128 - k) + t ∧
  L = (U % 18446744073709551616 : Nat) ∧ U < 340282366920938463463374607431768211456 ∧ H = if U / 18446744073709551616 < 9223372036854775808 then ((U / 18446744073709551616 : Nat) : Int) else ((U / 18446744073709551616 : Nat) : Int) - 18446744073709551616
theorem pr_start (A B : Nat) (hB : 0 < B) (hA : A < 170141183460469231731687303715884105728) (H L : Int) (hH : (A : Int) / 18446744073709551616 = H) (hL : (A : Int) % 18446744073709551616 = L) : PR A B 0 H L 0 := by
  refine ⟨0, A, A, 0, rfl, hB, by omega, by omega, by omega, by omega, by omega, by omega, ?_⟩
  rw [if_pos (by omega)]
  omega
theorem pr_end (A B : Nat) (H L r : Int) (h : PR A B 128 H L r) (hA : A < 170141183460469231731687303715884105728) : r = ((A % B : Nat) : Int) ∧ ((A / B : Nat) : Int) / 18446744073709551616 = H ∧ ((A / B : Nat) : Int) % 18446744073709551616 = L := by
  obtain ⟨q, t, U, m, rfl, hm, hq, ht, hU, hAq, hL, hU2, hH⟩ := h
  have e0 : (2 : Nat) ^ (128 - 128) = 1 := rfl
  rw [e0] at ht hAq
  obtain rfl : t = 0 := by omega
  have hAq' : A = B * q + m := by rw [Nat.mul_comm]; omega
  have e1 : A / B = q := by
    rw [hAq', Nat.mul_add_div (by omega), Nat.div_eq_of_lt hm]; omega
  have e2 : A % B = m := by rw [hAq', Nat.mul_add_mod, Nat.mod_eq_of_lt hm]
  have e3 : U = q := by omega
  have hqA : q ≤ A := by rw [hAq']; have := Nat.le_mul_of_pos_left q (show 0 < B by omega); omega
  rw [e1, e2]
  subst e3
  rw [if_pos (by omega)] at hH
  refine ⟨rfl, ?_, ?_⟩ <;> omega
theorem pr_step (A B k : Nat) (H L r : Int) (h : PR A B k H L r) (hk : k < 128) (hB : B < 9223372036854775808) :
    ∃ r2 b r3 H2 c H3 L2 : Int, IntKind.u64.wrap (r * 2) = r2 ∧ IntKind.u64.wrap H / 9223372036854775808 = b ∧ bits .or .u64 r2 b = r3 ∧ IntKind.i64.wrap (H * 2) = H2 ∧ IntKind.i64.wrap (L / 9223372036854775808) = c ∧ bits .or .i64 H2 c = H3 ∧ IntKind.u64.wrap (L * 2) = L2 ∧
      (r3 < B → PR A B (k + 1) H3 L2 r3) ∧ (¬ r3 < B → ∃ r4 L3 : Int, IntKind.u64.wrap (r3 - B) = r4 ∧ bits .or .u64 L2 1 = L3 ∧ PR A B (k + 1) H3 L3 r4) := by
  obtain ⟨q, t, U, m, rfl, hm, hq, ht, hU, hAq, hL, hU2, hH⟩ := h
  obtain ⟨P, hP⟩ : ∃ P : Nat, P = 2 ^ (128 - (k + 1)) := ⟨_, rfl⟩
  obtain ⟨K, hK⟩ : ∃ K : Nat, K = 2 ^ k := ⟨_, rfl⟩
  have e1 : (2 : Nat) ^ (128 - k) = 2 * P := by rw [hP, show 128 - k = (128 - (k + 1)) + 1 by omega, Nat.pow_succ]; omega
  have e2 : (2 : Nat) ^ (k + 1) = 2 * K := by rw [hK, Nat.pow_succ]; omega
  have e3 : P * K = 170141183460469231731687303715884105728 := by
    rw [hP, hK, ← Nat.pow_add, show 128 - (k + 1) + k = 127 by omega]
  rw [e1] at ht hAq
  rw [← hK] at hU hq
  -- the next bit
  obtain ⟨b, t', hb, htt, ht'⟩ : ∃ b t' : Nat, b ≤ 1 ∧ t = b * P + t' ∧ t' < P := by
    by_cases hc : t < P
    · exact ⟨0, t, by omega, by omega, hc⟩
    · exact ⟨1, t - P, by omega, by omega, by omega⟩
  obtain ⟨X, hX⟩ : ∃ X : Nat, X = t' * K := ⟨_, rfl⟩
  have hX1 : X + K ≤ 170141183460469231731687303715884105728 := by
    have h1 : (t' + 1) * K ≤ P * K := Nat.mul_le_mul_right K ht'
    rw [e3, Nat.add_mul] at h1
    omega
  have hUb : U = b * 170141183460469231731687303715884105728 + X + q := by
    rw [hU, htt, Nat.add_mul, Nat.mul_assoc, e3, ← hX]
  have hAb : A = (2 * q * B + (2 * m + b)) * P + t' := by
    rw [hAq, htt]
    have a1 : (q * B + m) * (2 * P) = (2 * q * B + 2 * m) * P := by
      rw [← Nat.mul_assoc]
      congr 1
      rw [Nat.add_mul, Nat.mul_right_comm q B 2, Nat.mul_comm q 2, Nat.mul_comm m 2]
    rw [a1, ← Nat.add_assoc, ← Nat.add_mul, Nat.add_assoc (2 * q * B)]
  clear hAq hU htt ht
  have hb2 : b = 0 ∨ b = 1 := by omega
  have hH3 : H = if U / 18446744073709551616 < 9223372036854775808 then ((U / 18446744073709551616 : Nat) : Int) else ((U / 18446744073709551616 : Nat) : Int) - 18446744073709551616 := hH
  have w1 : IntKind.u64.wrap ((m : Int) * 2) = ((2 * m : Nat) : Int) := by rw [IntKind.wrap_u64]; omega
  have w2 : IntKind.u64.wrap H / 9223372036854775808 = (b : Int) := by
    rw [IntKind.wrap_u64, hH]
    split <;> omega
  have w3 : bits .or .u64 ((2 * m : Nat) : Int) (b : Int) = ((2 * m + b : Nat) : Int) := by
    rw [or_u64 _ _ (by omega) (by omega) (by omega) (by omega) (by omega)]; omega
  obtain ⟨c, hc⟩ : ∃ c : Nat, c = U % 18446744073709551616 / 9223372036854775808 := ⟨_, rfl⟩
  have w5 : IntKind.i64.wrap (L / 9223372036854775808) = (c : Int) := by
    rw [IntKind.wrap_i64, hL, hc]; omega
  obtain ⟨H2, w4⟩ : ∃ H2, IntKind.i64.wrap (H * 2) = H2 := ⟨_, rfl⟩
  have w4' := w4
  rw [IntKind.wrap_i64] at w4'
  have w6 : bits .or .i64 H2 (c : Int) = H2 + c := or_i64 _ _ (by omega) (by omega) (by omega) (by omega) (by omega)
  have w7 : IntKind.u64.wrap (L * 2) = ((2 * X + 2 * q) % 18446744073709551616 : Nat) := by rw [IntKind.wrap_u64, hL]; omega
  have hval : H2 + c = if (2 * X + 2 * q) / 18446744073709551616 < 9223372036854775808 then (((2 * X + 2 * q) / 18446744073709551616 : Nat) : Int) else (((2 * X + 2 * q) / 18446744073709551616 : Nat) : Int) - 18446744073709551616 := by
    rw [hH] at w4'
    split at w4' <;> split <;> omega
  refine ⟨_, _, _, _, _, _, _, w1, w2, w3, w4, w5, w6, w7, fun hlt => ?_, fun hlt => ?_⟩
  · refine ⟨2 * q, t', 2 * X + 2 * q, 2 * m + b, rfl, by omega, by omega, by rw [← hP]; exact ht', ?_, by rw [← hP]; exact hAb, rfl, by omega, hval⟩
    rw [e2, hX, ← Nat.mul_assoc, Nat.mul_comm 2 t', Nat.mul_assoc]
  · have v1 : IntKind.u64.wrap (((2 * m + b : Nat) : Int) - B) = ((2 * m + b - B : Nat) : Int) := by rw [IntKind.wrap_u64]; omega
    have v2 : bits .or .u64 (((2 * X + 2 * q) % 18446744073709551616 : Nat) : Int) 1 = (((2 * X + 2 * q + 1) % 18446744073709551616 : Nat) : Int) := by
      rw [or_u64 _ _ (by omega) (by omega) (by omega) (by omega) (by omega)]; omega
    have hd : (2 * X + 2 * q + 1) / 18446744073709551616 = (2 * X + 2 * q) / 18446744073709551616 := by omega
    refine ⟨_, _, v1, v2, 2 * q + 1, t', 2 * X + 2 * q + 1, 2 * m + b - B, rfl, by omega, by omega, by rw [← hP]; exact ht', ?_, ?_, rfl, by omega, by rw [hd]; exact hval⟩
    · rw [e2, hX, ← Nat.mul_assoc, Nat.mul_comm 2 t', Nat.mul_assoc]; omega
    · rw [← hP, hAb]
      congr 2
      rw [Nat.add_mul, Nat.one_mul]
      omega
end Go.Proofs.Ytcllmobjdnhmlaa
