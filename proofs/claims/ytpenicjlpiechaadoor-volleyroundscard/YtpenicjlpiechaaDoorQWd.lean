/- The program's wide numbers: Of, Sub, Div and Cmp. -/
import Derived.WalkKit
import Derived.Laws.Bits64b
import Derived.Below
import Derived.Test.YtpenicjlpiechaaDoorRows
import Derived.WalkSpells
import Derived.WalkLawsBesides
import Derived.Laws.Externs
import Derived.Test.YtpenicjlpiechaaDoorQBas
import Derived.WalkMore
import Derived.Test.YtpenicjlpiechaaDoorQLib
import Derived.Laws.StructEq
namespace Go.Proofs.YtpenicjlpiechaaDoor.Wd
set_option maxRecDepth 10000
open Go Go.RowKit
theorem ofInt64_toNat (a : Int) : ((BitVec.ofInt 64 a).toNat : Int) = a % 18446744073709551616 := by
  rw [BitVec.toNat_ofInt]
  omega
theorem not_i64 (a : Int) (h0 : -9223372036854775808 ≤ a) (h1 : a < 9223372036854775808) : bits .xor .i64 (-1) a = -1 - a := by
  show IntKind.i64.wrap ((BitVec.ofInt 64 (-1) ^^^ BitVec.ofInt 64 a).toNat : Int) = _
  have e : BitVec.ofInt 64 (-1) = BitVec.allOnes 64 := by decide
  have h := ofInt64_toNat a
  rw [e, BitVec.allOnes_xor, BitVec.toNat_not, IntKind.wrap_i64]
  have := (BitVec.ofInt 64 a).isLt
  omega
theorem not_u64 (a : Int) (h0 : 0 ≤ a) (h1 : a < 18446744073709551616) : bits .xor .u64 IntKind.u64.max a = 18446744073709551615 - a := by
  have em : IntKind.u64.max = 18446744073709551615 := by decide
  rw [em]
  show IntKind.u64.wrap ((BitVec.ofInt 64 18446744073709551615 ^^^ BitVec.ofInt 64 a).toNat : Int) = _
  have e : BitVec.ofInt 64 18446744073709551615 = BitVec.allOnes 64 := by decide
  have h := ofInt64_toNat a
  rw [e, BitVec.allOnes_xor, BitVec.toNat_not, IntKind.wrap_u64]
  have := (BitVec.ofInt 64 a).isLt
  omega
theorem nat_or_bit (a b : Nat) (ha : a % 2 = 0) (hb : b ≤ 1) : a ||| b = a + b := by
  obtain ⟨c, rfl⟩ : ∃ c, a = 2 ^ 1 * c := ⟨a / 2, by omega⟩
  rw [← Nat.two_pow_add_eq_or_of_lt (by omega)]
theorem or_u64 (a b : Int) (h0 : 0 ≤ a) (h1 : a < 18446744073709551616) (h2 : a % 2 = 0) (hb0 : 0 ≤ b) (hb : b ≤ 1) : bits .or .u64 a b = a + b := by
  obtain ⟨x, rfl⟩ := Int.eq_ofNat_of_zero_le h0
  obtain ⟨y, rfl⟩ := Int.eq_ofNat_of_zero_le hb0
  rw [bits_or_u64_nat x y (by omega) (by omega), nat_or_bit x y (by omega) (by omega)]
  omega
theorem or_i64 (a b : Int) (h0 : -9223372036854775808 ≤ a) (h1 : a < 9223372036854775808) (h2 : a % 2 = 0) (hb0 : 0 ≤ b) (hb : b ≤ 1) : bits .or .i64 a b = a + b := by
  show IntKind.i64.wrap ((BitVec.ofInt 64 a ||| BitVec.ofInt 64 b).toNat : Int) = _
  have ha' := ofInt64_toNat a
  have hb' := ofInt64_toNat b
  rw [BitVec.toNat_or, nat_or_bit _ _ (by omega) (by omega), IntKind.wrap_i64]
  omega
/-- Behind k rounds of the long division of A by B: the part so far lies in the lowest bits of the number, the bits of A that are still to come in the highest ones; r is left. -/
def PR (A B k : Nat) (H L r : Int) : Prop := ∃ q t U m : Nat, r = m ∧ m < B ∧ q < 2 ^ k ∧ t < 2 ^ (128 - k) ∧ U = t * 2 ^ k + q ∧ A = (q * B + m) * 2 ^ (128 - k) + t ∧
  L = (U % 18446744073709551616 : Nat) ∧ U < 340282366920938463463374607431768211456 ∧ H = if U / 18446744073709551616 < 9223372036854775808 then ((U / 18446744073709551616 : Nat) : Int) else ((U / 18446744073709551616 : Nat) : Int) - 18446744073709551616
theorem pr_start (A B : Nat) (hB : 0 < B) (hA : A < 170141183460469231731687303715884105728) (H L : Int) (hH : (A : Int) / 18446744073709551616 = H) (hL : (A : Int) % 18446744073709551616 = L) : PR A B 0 H L 0 := by
  refine ⟨0, A, A, 0, rfl, hB, by omega, by omega, by omega, by omega, by omega, by omega, ?_⟩
  rw [if_pos (by omega)]
  omega
theorem pr_end (A B : Nat) (H L r : Int) (h : PR A B 128 H L r) (hA : A < 170141183460469231731687303715884105728) : r = ((A % B : Nat) : Int) ∧ ((A / B : Nat) : Int) / 18446744073709551616 = H ∧ ((A / B : Nat) : Int) % 18446744073709551616 = L := by
  obtain ⟨q, t, U, m, rfl, hm, hq, ht, hU, hAq, hL, hU2, hH⟩ := h
  have e0 : (2 : Nat) ^ (128 - 128) = 1 := rfl
  rw [e0] at ht hAq
  obtain rfl : t = 0 := by omega
  have hAq' : A = B * q + m := by rw [Nat.mul_comm]; omega
  have e1 : A / B = q := by
    rw [hAq', Nat.mul_add_div (by omega), Nat.div_eq_of_lt hm]; omega
  have e2 : A % B = m := by rw [hAq', Nat.mul_add_mod, Nat.mod_eq_of_lt hm]
  have e3 : U = q := by omega
  have hqA : q ≤ A := by rw [hAq']; have := Nat.le_mul_of_pos_left q (show 0 < B by omega); omega
  rw [e1, e2]
  subst e3
  rw [if_pos (by omega)] at hH
  refine ⟨rfl, ?_, ?_⟩ <;> omega
theorem pr_step (A B k : Nat) (H L r : Int) (h : PR A B k H L r) (hk : k < 128) (hB : B < 9223372036854775808) :
    ∃ r2 b r3 H2 c H3 L2 : Int, IntKind.u64.wrap (r * 2) = r2 ∧ IntKind.u64.wrap H / 9223372036854775808 = b ∧ bits .or .u64 r2 b = r3 ∧ IntKind.i64.wrap (H * 2) = H2 ∧ IntKind.i64.wrap (L / 9223372036854775808) = c ∧ bits .or .i64 H2 c = H3 ∧ IntKind.u64.wrap (L * 2) = L2 ∧
      (r3 < B → PR A B (k + 1) H3 L2 r3) ∧ (¬ r3 < B → ∃ r4 L3 : Int, IntKind.u64.wrap (r3 - B) = r4 ∧ bits .or .u64 L2 1 = L3 ∧ PR A B (k + 1) H3 L3 r4) := by
  obtain ⟨q, t, U, m, rfl, hm, hq, ht, hU, hAq, hL, hU2, hH⟩ := h
  obtain ⟨P, hP⟩ : ∃ P : Nat, P = 2 ^ (128 - (k + 1)) := ⟨_, rfl⟩
  obtain ⟨K, hK⟩ : ∃ K : Nat, K = 2 ^ k := ⟨_, rfl⟩
  have e1 : (2 : Nat) ^ (128 - k) = 2 * P := by rw [hP, show 128 - k = (128 - (k + 1)) + 1 by omega, Nat.pow_succ]; omega
  have e2 : (2 : Nat) ^ (k + 1) = 2 * K := by rw [hK, Nat.pow_succ]; omega
  have e3 : P * K = 170141183460469231731687303715884105728 := by
    rw [hP, hK, ← Nat.pow_add, show 128 - (k + 1) + k = 127 by omega]
  rw [e1] at ht hAq
  rw [← hK] at hU hq
  -- the next bit
  obtain ⟨b, t', hb, htt, ht'⟩ : ∃ b t' : Nat, b ≤ 1 ∧ t = b * P + t' ∧ t' < P := by
    by_cases hc : t < P
    · exact ⟨0, t, by omega, by omega, hc⟩
    · exact ⟨1, t - P, by omega, by omega, by omega⟩
  obtain ⟨X, hX⟩ : ∃ X : Nat, X = t' * K := ⟨_, rfl⟩
  have hX1 : X + K ≤ 170141183460469231731687303715884105728 := by
    have h1 : (t' + 1) * K ≤ P * K := Nat.mul_le_mul_right K ht'
    rw [e3, Nat.add_mul] at h1
    omega
  have hUb : U = b * 170141183460469231731687303715884105728 + X + q := by
    rw [hU, htt, Nat.add_mul, Nat.mul_assoc, e3, ← hX]
  have hAb : A = (2 * q * B + (2 * m + b)) * P + t' := by
    rw [hAq, htt]
    have a1 : (q * B + m) * (2 * P) = (2 * q * B + 2 * m) * P := by
      rw [← Nat.mul_assoc]
      congr 1
      rw [Nat.add_mul, Nat.mul_right_comm q B 2, Nat.mul_comm q 2, Nat.mul_comm m 2]
    rw [a1, ← Nat.add_assoc, ← Nat.add_mul, Nat.add_assoc (2 * q * B)]
  clear hAq hU htt ht
  have hb2 : b = 0 ∨ b = 1 := by omega
  have hH3 : H = if U / 18446744073709551616 < 9223372036854775808 then ((U / 18446744073709551616 : Nat) : Int) else ((U / 18446744073709551616 : Nat) : Int) - 18446744073709551616 := hH
  have w1 : IntKind.u64.wrap ((m : Int) * 2) = ((2 * m : Nat) : Int) := by rw [IntKind.wrap_u64]; omega
  have w2 : IntKind.u64.wrap H / 9223372036854775808 = (b : Int) := by
    rw [IntKind.wrap_u64, hH]
    split <;> omega
  have w3 : bits .or .u64 ((2 * m : Nat) : Int) (b : Int) = ((2 * m + b : Nat) : Int) := by
    rw [or_u64 _ _ (by omega) (by omega) (by omega) (by omega) (by omega)]; omega
  obtain ⟨c, hc⟩ : ∃ c : Nat, c = U % 18446744073709551616 / 9223372036854775808 := ⟨_, rfl⟩
  have w5 : IntKind.i64.wrap (L / 9223372036854775808) = (c : Int) := by
    rw [IntKind.wrap_i64, hL, hc]; omega
  obtain ⟨H2, w4⟩ : ∃ H2, IntKind.i64.wrap (H * 2) = H2 := ⟨_, rfl⟩
  have w4' := w4
  rw [IntKind.wrap_i64] at w4'
  have w6 : bits .or .i64 H2 (c : Int) = H2 + c := or_i64 _ _ (by omega) (by omega) (by omega) (by omega) (by omega)
  have w7 : IntKind.u64.wrap (L * 2) = ((2 * X + 2 * q) % 18446744073709551616 : Nat) := by rw [IntKind.wrap_u64, hL]; omega
  have hval : H2 + c = if (2 * X + 2 * q) / 18446744073709551616 < 9223372036854775808 then (((2 * X + 2 * q) / 18446744073709551616 : Nat) : Int) else (((2 * X + 2 * q) / 18446744073709551616 : Nat) : Int) - 18446744073709551616 := by
    rw [hH] at w4'
    split at w4' <;> split <;> omega
  refine ⟨_, _, _, _, _, _, _, w1, w2, w3, w4, w5, w6, w7, fun hlt => ?_, fun hlt => ?_⟩
  · refine ⟨2 * q, t', 2 * X + 2 * q, 2 * m + b, rfl, by omega, by omega, by rw [← hP]; exact ht', ?_, by rw [← hP]; exact hAb, rfl, by omega, hval⟩
    rw [e2, hX, ← Nat.mul_assoc, Nat.mul_comm 2 t', Nat.mul_assoc]
  · have v1 : IntKind.u64.wrap (((2 * m + b : Nat) : Int) - B) = ((2 * m + b - B : Nat) : Int) := by rw [IntKind.wrap_u64]; omega
    have v2 : bits .or .u64 (((2 * X + 2 * q) % 18446744073709551616 : Nat) : Int) 1 = (((2 * X + 2 * q + 1) % 18446744073709551616 : Nat) : Int) := by
      rw [or_u64 _ _ (by omega) (by omega) (by omega) (by omega) (by omega)]; omega
    have hd : (2 * X + 2 * q + 1) / 18446744073709551616 = (2 * X + 2 * q) / 18446744073709551616 := by omega
    refine ⟨_, _, v1, v2, 2 * q + 1, t', 2 * X + 2 * q + 1, 2 * m + b - B, rfl, by omega, by omega, by rw [← hP]; exact ht', ?_, ?_, rfl, by omega, by rw [hd]; exact hval⟩
    · rw [e2, hX, ← Nat.mul_assoc, Nat.mul_comm 2 t', Nat.mul_assoc]; omega
    · rw [← hP, hAb]
      congr 2
      rw [Nat.add_mul, Nat.one_mul]
      omega
end Go.Proofs.YtpenicjlpiechaaDoor.Wd
namespace Go.Proofs.YtpenicjlpiechaaDoor.Wd
set_option maxRecDepth 10000
open Go Go.RowKit
/-- A wide number as the program's structure. -/
def nl (z : Int) : List Value := [.int .i64 (z / 18446744073709551616), .int .u64 (z % 18446744073709551616)]
theorem nl_eq (z h l : Int) (hh : z / 18446744073709551616 = h) (hl : z % 18446744073709551616 = l) : (Value.agg (nl z).toArray) = .agg #[.int .i64 h, .int .u64 l] := by
  subst hh; subst hl; rfl
theorem nl_mk (z h l : Int) (h0 : 0 ≤ l) (h1 : l < 18446744073709551616) (hz : z = h * 18446744073709551616 + l) : (Value.agg (nl z).toArray) = .agg #[.int .i64 h, .int .u64 l] :=
  nl_eq z h l (by omega) (by omega)
/-- Is a number one of 64 bits? -/
def In64 (n : Int) : Prop := -9223372036854775808 ≤ n ∧ n < 9223372036854775808
def In128 (n : Int) : Prop := -170141183460469231731687303715884105728 ≤ n ∧ n < 170141183460469231731687303715884105728
theorem szN (z : Int) : (Tryd.prog.info? 60).map (·.size) = some (nl z).length := by
  have h : (Tryd.prog.info? 60).map (·.size) = some 2 := by kernel_rfl
  exact h
theorem one_nl (z : Int) : ∀ v ∈ nl z, v.oneCell' = true := by
  intro v hv
  simp only [nl, List.mem_cons, List.not_mem_nil, or_false] at hv
  rcases hv with rfl | rfl <;> rfl
theorem zeroN : ∀ w, (zeroValue 60).run Tryd.prog w = .ok (.agg (nl 0).toArray) w := by
  intro w; kernel_rfl
set_option maxHeartbeats 400000 in
theorem below_any (z : Int) (w : World) :
    Calls Tryd.prog 51 #[.agg (nl z).toArray] w fun e w' => e = .returned (.bool (decide (z < 0))) ∧ Below w.heap.size w w' := by
  obtain ⟨h, hh⟩ : ∃ h, z / 18446744073709551616 = h := ⟨_, rfl⟩
  obtain ⟨l, hl⟩ : ∃ l, z % 18446744073709551616 = l := ⟨_, rfl⟩
  rw [nl_eq z h l hh hl]
  have e : decide (z < 0) = decide (h < 0) := by congr 1; exact propext ⟨fun _ => by omega, fun _ => by omega⟩
  rw [e]; clear e hh hl
  go_enter Tryd.func51, Tryd.ntmps51
  go_wp2
  go_ret
  exact ⟨rfl, (Below.refl _ _).alloc (Nat.le_refl _) _⟩
set_option maxHeartbeats 400000 in
theorem of_any (n : Int) (w : World) (hn : In64 n) :
    Calls Tryd.prog 29 #[.int .i64 n] w fun e w' => e = .returned (.agg (nl n).toArray) ∧ Below w.heap.size w w' := by
  unfold In64 at hn
  rw [nl_eq n (n / 9223372036854775808) (IntKind.u64.wrap n) (by omega) (by rw [IntKind.wrap_u64])]
  clear hn
  go_enter Tryd.func29, Tryd.ntmps29
  go_wp2
  exact bodyPost_ret (results_blk rfl w.heap.size [.int .i64 (n / 9223372036854775808), .int .u64 (IntKind.u64.wrap n)] _ rfl (turn_alloc w _ 60).2 Tryd.underlying60 rfl rfl) rfl ⟨rfl, (Below.refl _ _).alloc (Nat.le_refl _) _⟩
set_option maxHeartbeats 400000 in
theorem turned_any (z : Int) (w : World) (hz : In128 z) :
    Calls Tryd.prog 72 #[.agg (nl z).toArray] w fun e w' => e = .returned (.agg (nl (-1 - z)).toArray) ∧ Below w.heap.size w w' := by
  unfold In128 at hz
  obtain ⟨h, hh⟩ : ∃ h, z / 18446744073709551616 = h := ⟨_, rfl⟩
  obtain ⟨l, hl⟩ : ∃ l, z % 18446744073709551616 = l := ⟨_, rfl⟩
  rw [nl_eq z h l hh hl]
  have n1 := not_i64 h (by omega) (by omega)
  have n2 := not_u64 l (by omega) (by omega)
  rw [nl_eq (-1 - z) (bits .xor .i64 (-1) h) (bits .xor .u64 IntKind.u64.max l) (by rw [n1]; omega) (by rw [n2]; omega)]
  clear n1 n2 hh hl hz
  have s1 : IntKind.i64.signed = true := rfl
  have s2 : IntKind.u64.signed = false := rfl
  go_enter Tryd.func72, Tryd.ntmps72
  go_wp2
  exact bodyPost_ret (results_blk rfl (w.heap.size + 1) [.int .i64 (bits .xor .i64 (-1) h), .int .u64 (bits .xor .u64 IntKind.u64.max l)] _ rfl (by simpa using (turn_alloc (w.alloc (.cells #[.int .i64 h, .int .u64 l] 60)) _ 60).2) Tryd.underlying60 rfl rfl) rfl ⟨rfl, ((Below.refl _ _).alloc (Nat.le_refl _) _).alloc (by simp) _⟩
/-- The library's Add64 and Sub64, which the model stands in for. -/
theorem f31_any (x y : Int) (hx : 0 ≤ x) (hy : 0 ≤ y) (w : World) : (callFunc 70 #[.int .u64 x, .int .u64 y, .int .u64 0]).run Tryd.prog w =
    .ok (.value (.tuple #[.int .u64 ((x + y) % 18446744073709551616), .int .u64 ((x + y) / 18446744073709551616)])) w := by
  rw [run_callFunc_extern Tryd.func70 (by kernel_rfl) (by kernel_rfl) (by kernel_rfl) (e := add64Entry) (by kernel_rfl), run_add64 x y 0 hx hy (by omega) (by omega)]
  simp only [Result.andThen, Int.add_zero]
/-- The model's own entry for Sub64, by its place in the model's table. -/
def subEntry : Array Value → Sem Value := (Extern.MathBitsCarry.rows.getD 1 ("", fun _ => pure (.tuple #[]))).2
theorem run_sub (x y : Nat) (w : World) :
    (subEntry #[.int .u64 x, .int .u64 y, .int .u64 0]).run Tryd.prog w =
      .ok (.tuple #[.int .u64 (((x + 18446744073709551616 - y) % 18446744073709551616 : Nat) : Int), .int .u64 ((if x < y then 1 else 0 : Nat) : Int)]) w := rfl
theorem f33_any (x y : Int) (hx : 0 ≤ x) (hy : 0 ≤ y) (hy2 : y < 18446744073709551616) (w : World) : (callFunc 50 #[.int .u64 x, .int .u64 y, .int .u64 0]).run Tryd.prog w =
    .ok (.value (.tuple #[.int .u64 ((x - y) % 18446744073709551616), .int .u64 (if x < y then 1 else 0)])) w := by
  obtain ⟨X, rfl⟩ := Int.eq_ofNat_of_zero_le hx
  obtain ⟨Y, rfl⟩ := Int.eq_ofNat_of_zero_le hy
  rw [run_callFunc_extern Tryd.func50 (by kernel_rfl) (by kernel_rfl) (by kernel_rfl) (e := subEntry) (by kernel_rfl), run_sub X Y]
  have e1 : (((X + 18446744073709551616 - Y) % 18446744073709551616 : Nat) : Int) = ((X : Int) - Y) % 18446744073709551616 := by omega
  have e2 : ((if X < Y then 1 else 0 : Nat) : Int) = if (X : Int) < Y then 1 else 0 := by split <;> split <;> omega
  rw [e1, e2]
  rfl
/-- Which of two is greater. -/
def cmpI (a b : Int) : Int := if a < b then -1 else if b < a then 1 else 0
set_option maxHeartbeats 400000 in
set_option maxHeartbeats 400000 in
theorem low32 (n r : Nat) (hn : n < 18446744073709551616) (hr : n % 4294967296 = r) : bits .and .u64 (n : Int) 4294967295 = (r : Int) := by
  have h := bits_and_u64_nat n (2 ^ 32 - 1) hn (by decide)
  rw [Nat.and_two_pow_sub_one_eq_mod n 32, show n % 2 ^ 32 = r from hr] at h
  exact h
theorem wrap_eq (z : Int) (n : Nat) (h : z = (n : Int)) (hn : n < 18446744073709551616) : IntKind.u64.wrap z = (n : Int) := by
  rw [IntKind.wrap_u64]; omega
/-- A product, by the four products of the halves. -/
theorem halves (a1 a0 b1 b0 : Nat) : (a1 * 4294967296 + a0) * (b1 * 4294967296 + b0) = a1 * b1 * 18446744073709551616 + (a1 * b0 + a0 * b1) * 4294967296 + a0 * b0 := by
  have e1 : a1 * 4294967296 * (b1 * 4294967296) = a1 * b1 * 18446744073709551616 := Nat.mul_mul_mul_comm a1 4294967296 b1 4294967296
  have e2 : a1 * 4294967296 * b0 = a1 * b0 * 4294967296 := Nat.mul_right_comm a1 4294967296 b0
  have e3 : a0 * (b1 * 4294967296) = a0 * b1 * 4294967296 := (Nat.mul_assoc a0 b1 4294967296).symm
  rw [Nat.add_mul, Nat.mul_add, Nat.mul_add, e1, e2, e3]
  omega
set_option maxHeartbeats 1000000 in
theorem mul_any (x y : Nat) (hx : x < 18446744073709551616) (hy : y < 18446744073709551616) (w : World) :
    Calls Tryd.prog 80 #[.int .u64 x, .int .u64 y] w fun e w' => e = .returned (.tuple #[.int .u64 ((x * y / 18446744073709551616 : Nat) : Int), .int .u64 ((x * y % 18446744073709551616 : Nat) : Int)]) ∧ w' = w := by
  obtain ⟨a1, a0, ha, a1l, a0l⟩ : ∃ a1 a0 : Nat, x = a1 * 4294967296 + a0 ∧ a1 ≤ 4294967295 ∧ a0 ≤ 4294967295 := ⟨x / 4294967296, x % 4294967296, by omega, by omega, by omega⟩
  obtain ⟨b1, b0, hb, b1l, b0l⟩ : ∃ b1 b0 : Nat, y = b1 * 4294967296 + b0 ∧ b1 ≤ 4294967295 ∧ b0 ≤ 4294967295 := ⟨y / 4294967296, y % 4294967296, by omega, by omega, by omega⟩
  have hp := halves a1 a0 b1 b0
  rw [← ha, ← hb] at hp
  have m11 := Nat.mul_le_mul a1l b1l
  have m10 := Nat.mul_le_mul a1l b0l
  have m01 := Nat.mul_le_mul a0l b1l
  have m00 := Nat.mul_le_mul a0l b0l
  have c11 := Int.natCast_mul a1 b1
  have c10 := Int.natCast_mul a1 b0
  have c01 := Int.natCast_mul a0 b1
  have c00 := Int.natCast_mul a0 b0
  have cxy := Int.natCast_mul x y
  generalize a1 * b1 = p11 at *
  generalize a1 * b0 = p10 at *
  generalize a0 * b1 = p01 at *
  generalize a0 * b0 = p00 at *
  generalize x * y = p at *
  obtain ⟨t, ht⟩ : ∃ t, p10 + p00 / 4294967296 = t := ⟨_, rfl⟩
  obtain ⟨u, hu⟩ : ∃ u, t % 4294967296 + p01 = u := ⟨_, rfl⟩
  obtain ⟨hi, hhi⟩ : ∃ hi, p / 18446744073709551616 = hi := ⟨_, rfl⟩
  obtain ⟨lo, hlo⟩ : ∃ lo, p % 18446744073709551616 = lo := ⟨_, rfl⟩
  rw [hhi, hlo]
  have e1 := low32 x a0 hx (by omega)
  have e2 := low32 y b0 hy (by omega)
  have e3 : (x : Int) / 4294967296 = a1 := by omega
  have e4 : (y : Int) / 4294967296 = b1 := by omega
  have e5 : IntKind.u64.wrap ((a0 : Int) * b0) = p00 := wrap_eq _ _ c00.symm (by omega)
  have e6 : IntKind.u64.wrap ((a1 : Int) * b0) = p10 := wrap_eq _ _ c10.symm (by omega)
  have e7 : IntKind.u64.wrap ((p10 : Int) + (p00 : Int) / 4294967296) = t := wrap_eq _ _ (by omega) (by omega)
  have e8 := low32 t (t % 4294967296) (by omega) rfl
  have e9 : IntKind.u64.wrap ((a0 : Int) * b1) = p01 := wrap_eq _ _ c01.symm (by omega)
  have e10 : IntKind.u64.wrap ((t % 4294967296 : Nat) + (p01 : Int)) = u := wrap_eq _ _ (by omega) (by omega)
  have e11 : IntKind.u64.wrap ((a1 : Int) * b1) = p11 := wrap_eq _ _ c11.symm (by omega)
  obtain ⟨s, hs⟩ : ∃ s, p11 + t / 4294967296 = s := ⟨_, rfl⟩
  have e12 : IntKind.u64.wrap ((p11 : Int) + (t : Int) / 4294967296) = s := wrap_eq _ _ (by omega) (by omega)
  have e13 : IntKind.u64.wrap ((s : Int) + (u : Int) / 4294967296) = hi := wrap_eq _ _ (by omega) (by omega)
  have e14 : IntKind.u64.wrap ((x : Int) * y) = lo := by rw [← cxy, IntKind.wrap_u64]; omega
  obtain ⟨r, hr⟩ : ∃ r, t % 4294967296 = r := ⟨_, rfl⟩
  rw [hr] at e8 e10
  clear ha hb hp m11 m10 m01 m00 c11 c10 c01 c00 cxy ht hu hhi hlo hs hr a1l a0l b1l b0l
  go_enter Tryd.func80, Tryd.ntmps80
  go_wp2
  go_ret2
  exact ⟨rfl, rfl⟩
end Go.Proofs.YtpenicjlpiechaaDoor.Wd
namespace Go.Proofs.YtpenicjlpiechaaDoor.Wd
set_option maxRecDepth 10000
open Go Go.RowKit
theorem results_blk_tmp {P : Program} {fn : Func} {p u : Tmp} {t : TypeId} (hf : fn.results = #[.cell p t, .tmp u]) {a : Act} {w : World} (b : Nat) (cs : List Value) (v : Value) (d : TypeDesc) (hp : a.tmps.getD p undef = .pointer (some ⟨b, 0, none⟩)) (hv : a.tmps.getD u undef = v) (hb : Blk w b cs t)
    (hu : P.underlying t = some d) (hd : d.isRow = true) (hi : (P.info? t).map (·.size) = some cs.length) : (results fn a.tmps).run P w = .ok (.tuple #[.agg cs.toArray, v]) w := by
  have h := run_loadVar_mid (P := P) w b 0 t cs d (by simpa using hb.range 0 cs.length) hu hd hi
  have hp' : a.tmps[p]?.getD undef = .pointer (some ⟨b, 0, none⟩) := by simpa using hp
  have hv' : a.tmps[u]?.getD undef = v := by simpa using hv
  simp [results, hf, asAddr, hp', h, hv']
theorem results_blk_tmp2 {P : Program} {fn : Func} {p u x : Tmp} {t : TypeId} (hf : fn.results = #[.cell p t, .tmp u, .tmp x]) {a : Act} {w : World} (b : Nat) (cs : List Value) (v y : Value) (d : TypeDesc) (hp : a.tmps.getD p undef = .pointer (some ⟨b, 0, none⟩)) (hv : a.tmps.getD u undef = v) (hx : a.tmps.getD x undef = y) (hb : Blk w b cs t)
    (hu : P.underlying t = some d) (hd : d.isRow = true) (hi : (P.info? t).map (·.size) = some cs.length) : (results fn a.tmps).run P w = .ok (.tuple #[.agg cs.toArray, v, y]) w := by
  have h := run_loadVar_mid (P := P) w b 0 t cs d (by simpa using hb.range 0 cs.length) hu hd hi
  have hp' : a.tmps[p]?.getD undef = .pointer (some ⟨b, 0, none⟩) := by simpa using hp
  have hv' : a.tmps[u]?.getD undef = v := by simpa using hv
  have hx' : a.tmps[x]?.getD undef = y := by simpa using hx
  simp [results, hf, asAddr, hp', h, hv', hx']
set_option maxRecDepth 10000 in
set_option maxHeartbeats 2000000 in
theorem parted_any (A B : Nat) (w : World) (hA : A < 170141183460469231731687303715884105728) (hB0 : 0 < B) (hB : B < 9223372036854775808) :
    Calls Tryd.prog 71 #[.agg (nl A).toArray, .int .u64 B] w fun e w' => e = .returned (.tuple #[.agg (nl ((A / B : Nat) : Int)).toArray, .int .u64 ((A % B : Nat) : Int)]) ∧ Below w.heap.size w w' := by
  obtain ⟨h, hh⟩ : ∃ h, (A : Int) / 18446744073709551616 = h := ⟨_, rfl⟩
  obtain ⟨l, hl⟩ : ∃ l, (A : Int) % 18446744073709551616 = l := ⟨_, rfl⟩
  rw [nl_eq A h l hh hl]
  have hs : Hid (PR A B 0 h l 0) := pr_start A B hB0 hA h l hh hl
  clear hh hl
  go_enter Tryd.func71, Tryd.ntmps71
  go_wp2
  go_step3
  go_wp2
  go_step3
  go_wp2
  go_loopw [6, 7] (fun left i wr => ∃ (k : Nat) (r H L : Int), k ≤ 128 ∧ i = .int .i64 k ∧ left = .int .u64 r ∧ Blk wr w.heap.size [.int .i64 H, .int .u64 L] 60 ∧ Blk wr (w.heap.size + 1) (nl 0) 60 ∧ Below w.heap.size w wr ∧ Hid (PR A B k H L r)) (fun _ i _ => 128 - (intOf i).toNat)
  case atStart =>
    refine ⟨0, 0, h, l, by omega, rfl, rfl, ?_, ?_, ((Below.refl _ _).alloc (Nat.le_refl _) _).alloc (by simp) _, hs⟩
    · have h1 := turn_alloc w [.int .i64 h, .int .u64 l] 60
      exact (turn_alloc _ (nl 0) 60).1.blk h1.2 (by simp)
    · have h1 := turn_alloc (w.alloc (.cells #[.int .i64 h, .int .u64 l] 60)) (nl 0) 60
      have h2 := h1.2
      simp only [World.alloc, Array.size_push] at h2
      exact h2
  case round =>
    obtain ⟨k, r, H, L, hk, rfl, rfl, hb, hb0, hB1, hpr⟩ := hrel
    clear hs
    have hc0 := hb.cell 0 _ rfl
    have hc1 := hb.cell 1 _ rfl
    have hf0 := hb.frozen 0
    have hf1 := hb.frozen 1
    by_cases hlt : (k : Int) < 128
    · obtain ⟨r2, b, r3, H2, c, H3, L2, e1, e2, e3, e4, e5, e6, e7, hp, hn⟩ := pr_step A B k H L r hpr.out (by omega) hB
      by_cases hrb : r3 < (B : Int)
      · have hp := (show Hid _ from hp hrb)
        clear hn hpr
        go_wp2
        go_roundw
        case rel =>
          obtain ⟨ht1, hb1⟩ := turn_setCell wr w.heap.size 0 (.int .i64 H3) _ 60 hb
          obtain ⟨ht2, hb2⟩ := turn_setCell _ w.heap.size 1 (.int .u64 L2) _ 60 hb1
          exact ⟨k + 1, r3, H3, L2, by omega, by go_num, rfl, hb2, ht2.blk (ht1.blk hb0 (by omega)) (by omega), ht2.below (ht1.below hB1 (Nat.le_refl _)) (Nat.le_refl _), hp⟩
        case measure => simp [intOf]; omega
      · obtain ⟨r4, L3, e8, e9, hp⟩ := hn hrb
        replace hp : Hid _ := hp
        clear hn hpr
        go_wp2
        go_roundw
        case rel =>
          obtain ⟨ht1, hb1⟩ := turn_setCell wr w.heap.size 0 (.int .i64 H3) _ 60 hb
          obtain ⟨ht2, hb2⟩ := turn_setCell _ w.heap.size 1 (.int .u64 L2) _ 60 hb1
          obtain ⟨ht3, hb3⟩ := turn_setCell _ w.heap.size 1 (.int .u64 L3) _ 60 hb2
          exact ⟨k + 1, r4, H3, L3, by omega, by go_num, rfl, hb3, ht3.blk (ht2.blk (ht1.blk hb0 (by omega)) (by omega)) (by omega), ht3.below (ht2.below (ht1.below hB1 (Nat.le_refl _)) (Nat.le_refl _)) (Nat.le_refl _), hp⟩
        case measure => simp [intOf]; omega
    · obtain rfl : k = 128 := by omega
      obtain ⟨hr, hH, hL⟩ := pr_end A B H L r hpr.out hA
      replace hr : Hid _ := hr
      have hN : Hid _ := nl_eq ((A / B : Nat) : Int) H L hH hL
      clear hH hL hpr
      have hd0 := hb0.frozen 0
      have hd1 := hb0.frozen 1
      have hg0 := hb0.cell 0 _ rfl
      have hg1 := hb0.cell 1 _ rfl
      go_wp2
      obtain ⟨ht1, hb1⟩ := turn_setCell wr (w.heap.size + 1) 0 (.int .i64 H) _ 60 hb0
      obtain ⟨ht2, hb2⟩ := turn_setCell _ (w.heap.size + 1) 1 (.int .u64 L) _ 60 hb1
      refine bodyPost_ret (results_blk_tmp rfl (w.heap.size + 1) [.int .i64 H, .int .u64 L] (.int .u64 r) _ rfl rfl hb2 Tryd.underlying60 rfl (szN 0)) rfl ⟨?_, ht2.below (ht1.below hB1 (by omega)) (by omega)⟩
      rw [← hr.out, hN.out]
theorem parted_l (A B : Nat) (Q S : Int) (hQ : Hid (((A / B : Nat) : Int) = Q)) (hS : Hid (((A % B : Nat) : Int) = S)) (w : World) (hA : A < 170141183460469231731687303715884105728) (hB0 : 0 < B) (hB : B < 9223372036854775808) :
    Calls Tryd.prog 71 #[.agg (nl A).toArray, .int .u64 B] w fun e w' => e = .returned (.tuple #[.agg (nl Q).toArray, .int .u64 S]) ∧ Below w.heap.size w w' := by
  have h := parted_any A B w hA hB0 hB
  rwa [hQ.out, hS.out] at h
theorem below_neg (z : Int) (h : z < 0) (w : World) : Calls Tryd.prog 51 #[.agg (nl z).toArray] w fun e w' => e = .returned (.bool true) ∧ Below w.heap.size w w' := by
  have := below_any z w
  rwa [decide_eq_true h] at this
theorem below_pos (z : Int) (h : ¬ z < 0) (w : World) : Calls Tryd.prog 51 #[.agg (nl z).toArray] w fun e w' => e = .returned (.bool false) ∧ Below w.heap.size w w' := by
  have := below_any z w
  rwa [decide_eq_false h] at this
section
variable {P : Program} {ops : Array Oper} {rest : List Oper} {a : Act} {w : World} {Q : Exit → Act → World → Prop} {ty : TypeId} {pos : String} {aft : Array Edge}
theorem at_boxD {x : Operand} (d : Tmp) (t : TypeId) (h : wpList P ops Q (⟨some d, .box t x, ty, pos, aft, none⟩ :: rest) a w) : wpList P ops Q (⟨some d, .box t x, ty, pos, aft, none⟩ :: rest) a w := h
theorem at_allocD (d : Tmp) (t : TypeId) (h : wpList P ops Q (⟨some d, .alloc t, ty, pos, aft, none⟩ :: rest) a w) : wpList P ops Q (⟨some d, .alloc t, ty, pos, aft, none⟩ :: rest) a w := h
theorem at_loadD {x : Operand} (d : Tmp) (t : TypeId) (h : wpList P ops Q (⟨some d, .load t x, ty, pos, aft, none⟩ :: rest) a w) : wpList P ops Q (⟨some d, .load t x, ty, pos, aft, none⟩ :: rest) a w := h
theorem at_storeX {y : Operand} {dst : Option Tmp} (x : Tmp) (t : TypeId) (h : wpList P ops Q (⟨dst, .store t (.tmp x) y, ty, pos, aft, none⟩ :: rest) a w) : wpList P ops Q (⟨dst, .store t (.tmp x) y, ty, pos, aft, none⟩ :: rest) a w := h
end
set_option maxRecDepth 10000 in
set_option maxHeartbeats 2000000 in
theorem div_pos (A B : Nat) (Q S : Int) (hQ : Hid (((A / B : Nat) : Int) = Q)) (hS : Hid (((A % B : Nat) : Int) = S)) (w : World) (hA : A < 170141183460469231731687303715884105728) (hB0 : 0 < B) (hB1 : B < 9223372036854775808) :
    Calls Tryd.prog 53 #[.agg (nl (A : Int)).toArray, .int .i64 B] w fun e w' => e = .returned (.tuple #[.agg (nl Q).toArray, .int .i64 S, .int .i64 0]) ∧ Below w.heap.size w w' := by
  have hw : IntKind.u64.wrap (B : Int) = B := by rw [IntKind.wrap_u64]; omega
  have hn : ¬ (B : Int) < 1 := by omega
  have hr : IntKind.i64.wrap S = S := by have := Nat.mod_lt A hB0; have := hS.out; rw [IntKind.wrap_i64]; omega
  go_enter Tryd.func53, Tryd.ntmps53
  go_wp2_with (first
    | ((with_reducible refine at_boxD 2 60 ?_); refine L_box 60 _ (nl ((A : Int))) rfl ?_; intro w1 t_ b_a; have l_a : w.heap.size ≤ w.heap.size := Nat.le_refl _; have hB : Below w.heap.size w w1 := t_.below (Below.refl _ _) (Nat.le_refl _); clear t_)
    | ((with_reducible refine at_allocD 4 60 ?_); refine L_alloc 60 (nl 0) zeroN ?_; intro w2 t_ b_r; have l_r : w.heap.size ≤ w1.heap.size := hB.size; have o_r := b_a.lt; replace b_a := t_.blk b_a (by omega); replace hB := t_.below hB l_r; clear t_)
    | ((with_reducible refine at_loadD 14 60 ?_); refine L_load_all 60 _ (w.heap.size) (nl ((A : Int))) 60 _ rfl b_a Tryd.underlying60 rfl (szN 0) ?_))
  refine (below_pos ((A : Int)) (by omega) w2).mono ?_
  rintro e w3 ⟨rfl, t_⟩
  replace b_a := b_a.below t_ b_a.lt
  replace b_r := b_r.below t_ b_r.lt
  replace hB := hB.trans (t_.mono hB.size)
  clear t_
  go_wp2_with (first
    | ((with_reducible refine at_loadD 18 60 ?_); refine L_load_all 60 _ (w.heap.size) (nl ((A : Int))) 60 _ rfl b_a Tryd.underlying60 rfl (szN 0) ?_))
  refine (parted_l A B Q S hQ hS w3 hA hB0 hB1).mono ?_
  rintro e w4 ⟨rfl, t_⟩
  replace b_a := b_a.below t_ b_a.lt
  replace b_r := b_r.below t_ b_r.lt
  replace hB := hB.trans (t_.mono hB.size)
  clear t_
  go_wp2_with (first
    | ((with_reducible refine at_allocD 7 60 ?_); refine L_alloc 60 (nl 0) zeroN ?_; intro w5 t_ b_p; have l_p : w.heap.size ≤ w4.heap.size := hB.size; have o_p := b_r.lt; replace b_a := t_.blk b_a (by omega); replace b_r := t_.blk b_r (by omega); replace hB := t_.below hB l_p; clear t_)
    | ((with_reducible refine at_storeX 7 60 ?_); refine L_store_all 60 _ _ (w4.heap.size) (nl Q) _ 60 rfl rfl b_p (szN 0) (rfl) (one_nl _) ?_; clear b_p; intro w6 t_ b_p; replace b_a := t_.blk b_a (by omega); replace b_r := t_.blk b_r (by omega); replace hB := t_.below hB l_p; clear t_)
    | ((with_reducible refine at_loadD 24 60 ?_); refine L_load_all 60 _ (w4.heap.size) (nl Q) 60 _ rfl b_p Tryd.underlying60 rfl (szN 0) ?_)
    | ((with_reducible refine at_storeX 4 60 ?_); refine L_store_all 60 _ _ (w1.heap.size) (nl Q) _ 60 rfl rfl b_r (szN 0) (rfl) (one_nl _) ?_; clear b_r; intro w7 t_ b_r; replace b_a := t_.blk b_a (by omega); replace b_p := t_.blk b_p (by omega); replace hB := t_.below hB l_r; clear t_))
  (try simp only [Exit.inBlock, Exit.then])
  exact bodyPost_ret (results_blk_tmp2 rfl _ (nl Q) (.int .i64 S) (.int .i64 0) _ rfl rfl rfl b_r Tryd.underlying60 rfl (szN 0)) rfl ⟨rfl, hB⟩

set_option maxRecDepth 10000 in
set_option maxHeartbeats 2000000 in
theorem div_neg (A B : Nat) (Q S R : Int) (hQ : Hid (((A / B : Nat) : Int) = Q)) (hS : Hid (((A % B : Nat) : Int) = S)) (w : World) (hA : A < 170141183460469231731687303715884105728) (hB0 : 0 < B) (hB1 : B < 9223372036854775808) (hR : (B : Int) - 1 - S = R) :
    Calls Tryd.prog 53 #[.agg (nl (-1 - (A : Int))).toArray, .int .i64 B] w fun e w' => e = .returned (.tuple #[.agg (nl (-1 - Q)).toArray, .int .i64 R, .int .i64 0]) ∧ Below w.heap.size w w' := by
  have hw : IntKind.u64.wrap (B : Int) = B := by rw [IntKind.wrap_u64]; omega
  have hn : ¬ (B : Int) < 1 := by omega
  have hr : IntKind.i64.wrap S = S := by have := Nat.mod_lt A hB0; have := hS.out; rw [IntKind.wrap_i64]; omega
  have hr1 : IntKind.i64.wrap ((B : Int) - 1) = (B : Int) - 1 := by rw [IntKind.wrap_i64]; omega
  have hr2 : IntKind.i64.wrap ((B : Int) - 1 - S) = R := by have := Nat.mod_lt A hB0; have := hS.out; rw [IntKind.wrap_i64]; omega
  have hQ1 : Hid (In128 Q) := by have h1 := Nat.div_le_self A B; have h2 := hQ.out; show In128 _; unfold In128; generalize A / B = q at h1 h2; omega
  clear hR
  go_enter Tryd.func53, Tryd.ntmps53
  go_wp2_with (first
    | ((with_reducible refine at_boxD 2 60 ?_); refine L_box 60 _ (nl (-1 - (A : Int))) rfl ?_; intro w1 t_ b_a; have l_a : w.heap.size ≤ w.heap.size := Nat.le_refl _; have hB : Below w.heap.size w w1 := t_.below (Below.refl _ _) (Nat.le_refl _); clear t_)
    | ((with_reducible refine at_allocD 4 60 ?_); refine L_alloc 60 (nl 0) zeroN ?_; intro w2 t_ b_r; have l_r : w.heap.size ≤ w1.heap.size := hB.size; have o_r := b_a.lt; replace b_a := t_.blk b_a (by omega); replace hB := t_.below hB l_r; clear t_)
    | ((with_reducible refine at_loadD 14 60 ?_); refine L_load_all 60 _ (w.heap.size) (nl (-1 - (A : Int))) 60 _ rfl b_a Tryd.underlying60 rfl (szN 0) ?_))
  refine (below_neg (-1 - (A : Int)) (by omega) w2).mono ?_
  rintro e w3 ⟨rfl, t_⟩
  replace b_a := b_a.below t_ b_a.lt
  replace b_r := b_r.below t_ b_r.lt
  replace hB := hB.trans (t_.mono hB.size)
  clear t_
  go_wp2_with (first
    | ((with_reducible refine at_loadD 28 60 ?_); refine L_load_all 60 _ (w.heap.size) (nl (-1 - (A : Int))) 60 _ rfl b_a Tryd.underlying60 rfl (szN 0) ?_))
  refine (turned_any (-1 - (A : Int)) w3 (by unfold In128; omega)).mono ?_
  rintro e w4 ⟨rfl, t_⟩
  replace b_a := b_a.below t_ b_a.lt
  replace b_r := b_r.below t_ b_r.lt
  replace hB := hB.trans (t_.mono hB.size)
  clear t_
  rw [show -1 - (-1 - (A : Int)) = (A : Int) by omega]
  go_wp2_with fail
  refine (parted_l A B Q S hQ hS w4 hA hB0 hB1).mono ?_
  rintro e w5 ⟨rfl, t_⟩
  replace b_a := b_a.below t_ b_a.lt
  replace b_r := b_r.below t_ b_r.lt
  replace hB := hB.trans (t_.mono hB.size)
  clear t_
  go_wp2_with (first
    | ((with_reducible refine at_allocD 9 60 ?_); refine L_alloc 60 (nl 0) zeroN ?_; intro w6 t_ b_p; have l_p : w.heap.size ≤ w5.heap.size := hB.size; have o_p := b_r.lt; replace b_a := t_.blk b_a (by omega); replace b_r := t_.blk b_r (by omega); replace hB := t_.below hB l_p; clear t_)
    | ((with_reducible refine at_storeX 9 60 ?_); refine L_store_all 60 _ _ (w5.heap.size) (nl Q) _ 60 rfl rfl b_p (szN 0) (rfl) (one_nl _) ?_; clear b_p; intro w7 t_ b_p; replace b_a := t_.blk b_a (by omega); replace b_r := t_.blk b_r (by omega); replace hB := t_.below hB l_p; clear t_)
    | ((with_reducible refine at_loadD 35 60 ?_); refine L_load_all 60 _ (w5.heap.size) (nl Q) 60 _ rfl b_p Tryd.underlying60 rfl (szN 0) ?_))
  refine (turned_any Q w7 hQ1.out).mono ?_
  rintro e w8 ⟨rfl, t_⟩
  replace b_a := b_a.below t_ b_a.lt
  replace b_r := b_r.below t_ b_r.lt
  replace b_p := b_p.below t_ b_p.lt
  replace hB := hB.trans (t_.mono hB.size)
  clear t_
  go_wp2_with (first
    | ((with_reducible refine at_storeX 4 60 ?_); refine L_store_all 60 _ _ (w1.heap.size) (nl (-1 - Q)) _ 60 rfl rfl b_r (szN 0) (rfl) (one_nl _) ?_; clear b_r; intro w9 t_ b_r; replace b_a := t_.blk b_a (by omega); replace b_p := t_.blk b_p (by omega); replace hB := t_.below hB l_r; clear t_))
  (try simp only [Exit.inBlock, Exit.then])
  exact bodyPost_ret (results_blk_tmp2 rfl _ (nl (-1 - Q)) (.int .i64 R) (.int .i64 0) _ rfl rfl rfl b_r Tryd.underlying60 rfl (szN 0)) rfl ⟨rfl, hB⟩
theorem ediv_neg1 (A B : Nat) (hB : 0 < B) : (-1 - (A : Int)) / (B : Int) = -1 - ((A / B : Nat) : Int) ∧ (-1 - (A : Int)) % (B : Int) = (B : Int) - 1 - ((A % B : Nat) : Int) := by
  have h1 := Nat.div_add_mod A B
  have h2 := Nat.mod_lt A hB
  have e : -1 - (A : Int) = (B : Int) - 1 - ((A % B : Nat) : Int) + (B : Int) * (-1 - ((A / B : Nat) : Int)) := by
    have h3 : (A : Int) = (B : Int) * ((A / B : Nat) : Int) + ((A % B : Nat) : Int) := by exact_mod_cast h1.symm
    rw [Int.mul_sub]
    omega
  have hb : (B : Int) ≠ 0 := by omega
  constructor
  · rw [e, Int.add_mul_ediv_left _ _ hb, Int.ediv_eq_zero_of_lt (by omega) (by omega)]; omega
  · rw [e, Int.add_mul_emod_self_left, Int.emod_eq_of_lt (by omega) (by omega)]
theorem div_any (z n : Int) (w : World) (hz : In128 z) (h0 : 1 ≤ n) (h1 : n < 9223372036854775808) (Q R : Int) (hQ : Hid (z / n = Q)) (hR : Hid (z % n = R)) :
    Calls Tryd.prog 53 #[.agg (nl z).toArray, .int .i64 n] w fun e w' => e = .returned (.tuple #[.agg (nl Q).toArray, .int .i64 R, .int .i64 0]) ∧ Below w.heap.size w w' := by
  unfold In128 at hz
  obtain ⟨B, rfl⟩ := Int.eq_ofNat_of_zero_le (show 0 ≤ n by omega)
  by_cases hz0 : 0 ≤ z
  · obtain ⟨A, rfl⟩ := Int.eq_ofNat_of_zero_le hz0
    exact div_pos A B Q R (by show _ = _; rw [← hQ.out]; rfl) (by show _ = _; rw [← hR.out]; rfl) w (by omega) (by omega) (by omega)
  · obtain ⟨A, hA⟩ := Int.eq_ofNat_of_zero_le (show 0 ≤ -1 - z by omega)
    obtain rfl : z = -1 - (A : Int) := by omega
    obtain ⟨e1, e2⟩ := ediv_neg1 A B (by omega)
    have hq := hQ.out; have hr := hR.out
    rw [e1] at hq; rw [e2] at hr
    subst hq; subst hr
    exact div_neg A B _ _ _ (by show _ = _; rfl) (by show _ = _; rfl) w (by omega) (by omega) (by omega) rfl
end Go.Proofs.YtpenicjlpiechaaDoor.Wd
namespace Go.Proofs.YtpenicjlpiechaaDoor.Wd
set_option maxRecDepth 10000
open Go Go.RowKit
theorem fieldsN : Tryd.prog.underlying 60 = some (.struct (Tryd.prog.fieldsOf 60)) := by kernel_rfl
theorem heldN : Tryd.prog.stoodInHeld 60 = false := by kernel_rfl
theorem flN : (Tryd.prog.fieldsOf 60).toList = [{ name := "High", type := 2, offset := 0, embedded := false, tag := "", pkgPath := "", byteOffset := 0 }, { name := "Low", type := 34, offset := 1, embedded := false, tag := "", pkgPath := "", byteOffset := 8 }] := by kernel_rfl
theorem nl_beq (x y : Int) : (((x / 18446744073709551616 == y / 18446744073709551616) : Bool) && (x % 18446744073709551616 == y % 18446744073709551616)) = decide (x = y) := by
  by_cases h : x = y
  · subst h; simp
  · rw [decide_eq_false h]
    by_cases h1 : x / 18446744073709551616 = y / 18446744073709551616
    · have h2 : ¬ x % 18446744073709551616 = y % 18446744073709551616 := by omega
      simp [h2]
    · simp [h1]
theorem equalN (x y : Int) (w : World) : (Op.equalIn 10000 60 (.agg (nl x).toArray) (.agg (nl y).toArray)).run Tryd.prog w = .ok (decide (x = y)) w := by
  rw [run_equalIn_agg w 9999 60 _ _ fieldsN heldN, flN, ← nl_beq]
  have p0 : ∀ z : Int, (part 2 (nl z).toArray 0).run Tryd.prog w = .ok (.int .i64 (z / 18446744073709551616)) w := by intro z; simp [part, nl]
  have p1 : ∀ z : Int, (part 34 (nl z).toArray 1).run Tryd.prog w = .ok (.int .u64 (z % 18446744073709551616)) w := by intro z; simp [part, nl]
  simp only [Op.eqFields, ne_eq, not_false_eq_true, if_true, Sem.run_bind, p0, p1, Result.andThen_ok, run_equalIn_int w 9998 2 .i64 .i64 _ _ Tryd.underlying2, run_equalIn_int w 9998 34 .u64 .u64 _ _ Tryd.underlying34, String.reduceEq, Sem.run_ite, Sem.run_pure]
  cases (x / 18446744073709551616 == y / 18446744073709551616) <;> cases (x % 18446744073709551616 == y % 18446744073709551616) <;> rfl
theorem neqN (x y : Int) (w : World) : (binOp .neq 60 (.agg (nl x).toArray) (.agg (nl y).toArray)).run Tryd.prog w = .ok (.bool (!decide (x = y))) w := by
  rw [run_neq_struct, equalN]; rfl
section
variable {P : Program} {ops : Array Oper} {rest : List Oper} {a : Act} {w : World} {Q : Exit → Act → World → Prop} {dst : Option Tmp} {ty yt : TypeId} {pos : String} {aft : Array Edge} {gd : Option (Nat × Bool)} {K : Value → World → Prop}
theorem g_neqN (x y : Operand) (p q : Int) (b : Bool) (hx : a.eval x = .agg (nl p).toArray) (hy : a.eval y = .agg (nl q).toArray) (hb : decide (p = q) = b) (hk : K (.bool (!b)) w) : gives Tryd.prog ⟨dst, .binOp .neq 60 x y yt, ty, pos, aft, gd⟩ a w K :=
  g_val (.bool (!b)) w (by subst hb; simp [execOp, hx, hy, eqGuard, neqN]) hk
theorem g_extract (x : Operand) (vs : Array Value) (i : Nat) (v : Value) (hx : a.eval x = .tuple vs) (hv : vs[i]? = some v) (hk : K v w) : gives P ⟨dst, .extract x i, ty, pos, aft, gd⟩ a w K :=
  g_val v w (by simp [execOp, hx, hv, Instr.extract]) hk
theorem g_pickt (c x y : Operand) (v : Value) (hc : a.eval c = .bool true) (hx : a.eval x = v) (hk : K v w) : gives P ⟨dst, .pick c x y, ty, pos, aft, gd⟩ a w K :=
  g_val v w (by simp [execOp, hc, hx, asBool]) hk
theorem g_pickf (c x y : Operand) (v : Value) (hc : a.eval c = .bool false) (hy : a.eval y = v) (hk : K v w) : gives P ⟨dst, .pick c x y, ty, pos, aft, gd⟩ a w K :=
  g_val v w (by simp [execOp, hc, hy, asBool]) hk
theorem g_igeq (t : TypeId) (x y : Operand) (k : IntKind) (p q : Int) (b : Bool) (hx : a.eval x = .int k p) (hy : a.eval y = .int k q) (hb : decide (q ≤ p) = b) (hk : K (.bool b) w) : gives P ⟨dst, .binOp .geq t x y yt, ty, pos, aft, gd⟩ a w K :=
  g_val (.bool b) w (by subst hb; simp [execOp, hx, hy, eqGuard, binOp, Op.intCmp]) hk
theorem g_ileq (t : TypeId) (x y : Operand) (k : IntKind) (p q : Int) (b : Bool) (hx : a.eval x = .int k p) (hy : a.eval y = .int k q) (hb : decide (p ≤ q) = b) (hk : K (.bool b) w) : gives P ⟨dst, .binOp .leq t x y yt, ty, pos, aft, gd⟩ a w K :=
  g_val (.bool b) w (by subst hb; simp [execOp, hx, hy, eqGuard, binOp, Op.intCmp]) hk
theorem g_igtr (t : TypeId) (x y : Operand) (k : IntKind) (p q : Int) (b : Bool) (hx : a.eval x = .int k p) (hy : a.eval y = .int k q) (hb : decide (q < p) = b) (hk : K (.bool b) w) : gives P ⟨dst, .binOp .gtr t x y yt, ty, pos, aft, gd⟩ a w K :=
  g_val (.bool b) w (by subst hb; simp [execOp, hx, hy, eqGuard, binOp, Op.intCmp]) hk
/-- One operation that its guard wants, in a statement of fixed order. -/
theorem L_give {o : Oper} (hw : Region.wanted o (yielded ops a.tmps) = true) (h : gives P o a w (fun v w' => wpList P ops Q rest (a.put o.dst v) w')) : wpList P ops Q (o :: rest) a w := by
  unfold wpList; rw [if_pos hw]; exact .inl (wp_of_gives rfl h (fun _ _ h => h))
theorem at_binD {x y : Operand} {b : BinOp} {t yt : TypeId} (d : Tmp) (h : wpList P ops Q (⟨some d, .binOp b t x y yt, ty, pos, aft, gd⟩ :: rest) a w) : wpList P ops Q (⟨some d, .binOp b t x y yt, ty, pos, aft, gd⟩ :: rest) a w := h
theorem at_loadDG {x : Operand} {t : TypeId} (d : Tmp) (h : wpList P ops Q (⟨some d, .load t x, ty, pos, aft, gd⟩ :: rest) a w) : wpList P ops Q (⟨some d, .load t x, ty, pos, aft, gd⟩ :: rest) a w := h
theorem at_callDG {c : Call} (d : Tmp) (h : wpList P ops Q (⟨some d, .call c, ty, pos, aft, gd⟩ :: rest) a w) : wpList P ops Q (⟨some d, .call c, ty, pos, aft, gd⟩ :: rest) a w := h
theorem run_cell34 (w : World) (b o : Nat) (v : Value) (hc : w.cell? ⟨b, o, none⟩ = some v) (x : Operand) (hx : a.eval x = .pointer (some ⟨b, o, none⟩)) : (execOp a.eval ⟨dst, .load 34 x, ty, pos, aft, gd⟩).run Tryd.prog w = .ok (.value v) w := by
  simp only [execOp, hx]
  go_simp
theorem run_cell2 (w : World) (b o : Nat) (v : Value) (hc : w.cell? ⟨b, o, none⟩ = some v) (x : Operand) (hx : a.eval x = .pointer (some ⟨b, o, none⟩)) : (execOp a.eval ⟨dst, .load 2 x, ty, pos, aft, gd⟩).run Tryd.prog w = .ok (.value v) w := by
  simp only [execOp, hx]
  go_simp
theorem g_cell34 (x : Operand) (b o : Nat) (cs : List Value) (bt : TypeId) (v : Value) (hx : a.eval x = .pointer (some ⟨b, o, none⟩)) (hb : Blk w b cs bt) (hv : cs[o]? = some v) (hk : K v w) : gives Tryd.prog ⟨dst, .load 34 x, ty, pos, aft, gd⟩ a w K :=
  g_val v w (run_cell34 w b o v (hb.cell o v hv) x hx) hk
theorem g_cell2 (x : Operand) (b o : Nat) (cs : List Value) (bt : TypeId) (v : Value) (hx : a.eval x = .pointer (some ⟨b, o, none⟩)) (hb : Blk w b cs bt) (hv : cs[o]? = some v) (hk : K v w) : gives Tryd.prog ⟨dst, .load 2 x, ty, pos, aft, gd⟩ a w K :=
  g_val v w (run_cell2 w b o v (hb.cell o v hv) x hx) hk
theorem L_cell34 (x : Operand) (b o : Nat) (cs : List Value) (bt : TypeId) (v : Value) (hx : a.eval x = .pointer (some ⟨b, o, none⟩)) (hb : Blk w b cs bt) (hv : cs[o]? = some v) (h : wpList Tryd.prog ops Q rest (a.put dst v) w) :
    wpList Tryd.prog ops Q (⟨dst, .load 34 x, ty, pos, aft, none⟩ :: rest) a w := by
  refine wpList_plain rfl fun K hK => ?_
  unfold Oper.wp
  rw [run_cell34 w b o v (hb.cell o v hv) x hx]
  exact hK _ _ h
theorem L_cell2 (x : Operand) (b o : Nat) (cs : List Value) (bt : TypeId) (v : Value) (hx : a.eval x = .pointer (some ⟨b, o, none⟩)) (hb : Blk w b cs bt) (hv : cs[o]? = some v) (h : wpList Tryd.prog ops Q rest (a.put dst v) w) :
    wpList Tryd.prog ops Q (⟨dst, .load 2 x, ty, pos, aft, none⟩ :: rest) a w := by
  refine wpList_plain rfl fun K hK => ?_
  unfold Oper.wp
  rw [run_cell2 w b o v (hb.cell o v hv) x hx]
  exact hK _ _ h
theorem g_beql (x y : Operand) (p q : Bool) (hx : a.eval x = .bool p) (hy : a.eval y = .bool q) (hk : K (.bool (p == q)) w) : gives Tryd.prog ⟨dst, .binOp .eql 4 x y yt, ty, pos, aft, gd⟩ a w K := by
  have h := run_equalIn_bool w 9999 4 p q Tryd.underlying4
  exact g_val (.bool (p == q)) w (by simp [execOp, hx, hy, eqGuard, binOp, Op.equal, Op.maxDepth, h]) hk
theorem g_bneq (x y : Operand) (p q : Bool) (hx : a.eval x = .bool p) (hy : a.eval y = .bool q) (hk : K (.bool (p != q)) w) : gives Tryd.prog ⟨dst, .binOp .neq 4 x y yt, ty, pos, aft, gd⟩ a w K := by
  have h := run_equalIn_bool w 9999 4 p q Tryd.underlying4
  exact g_val (.bool (p != q)) w (by simp [execOp, hx, hy, eqGuard, binOp, Op.equal, Op.maxDepth, h, bne]) hk
theorem g_ieq (t : TypeId) (x y : Operand) (k : IntKind) (p q : Int) (b : Bool) (hx : a.eval x = .int k p) (hy : a.eval y = .int k q) (hb : decide (p = q) = b) (hk : K (.bool b) w) : gives P ⟨dst, .binOp .eql t x y yt, ty, pos, aft, gd⟩ a w K :=
  g_val (.bool b) w (by subst hb; simp [execOp, hx, hy, eqGuard, binOp, Op.intCmp]; rfl) hk
theorem g_ine (t : TypeId) (x y : Operand) (k : IntKind) (p q : Int) (b : Bool) (hx : a.eval x = .int k p) (hy : a.eval y = .int k q) (hb : decide (p ≠ q) = b) (hk : K (.bool b) w) : gives P ⟨dst, .binOp .neq t x y yt, ty, pos, aft, gd⟩ a w K :=
  g_val (.bool b) w (by subst hb; simp [execOp, hx, hy, eqGuard, binOp, Op.intCmp]; rfl) hk
theorem g_ilss (t : TypeId) (x y : Operand) (k : IntKind) (p q : Int) (b : Bool) (hx : a.eval x = .int k p) (hy : a.eval y = .int k q) (hb : decide (p < q) = b) (hk : K (.bool b) w) : gives P ⟨dst, .binOp .lss t x y yt, ty, pos, aft, gd⟩ a w K :=
  g_val (.bool b) w (by subst hb; simp [execOp, hx, hy, eqGuard, binOp, Op.intCmp]) hk
theorem g_unot (t : TypeId) (x : Operand) (b : Bool) (hx : a.eval x = .bool b) (hk : K (.bool (!b)) w) : gives P ⟨dst, .unOp .not t x, ty, pos, aft, gd⟩ a w K :=
  g_val (.bool (!b)) w (by simp [execOp, hx, Op.unary]) hk
theorem gn {o : Oper} (hw : Region.wanted o (yielded ops a.tmps) = false) (h : K undef w) : givesW P ops o a w K := by
  unfold givesW; rw [if_neg (by rw [hw]; decide)]; exact h
theorem gw {o : Oper} (hw : Region.wanted o (yielded ops a.tmps) = true) (h : gives P o a w K) : givesW P ops o a w K := by
  unfold givesW; rw [if_pos hw]; exact h
theorem mono_val {f : FuncId} {args : Array Value} {W w : World} {v : Value} (hw : Below W.heap.size W w) (h : Calls P f args w fun e w' => e = .returned v ∧ Below w.heap.size w w') :
    Calls P f args w fun e w' => ∃ x, e = .returned x ∧ x = v ∧ Below W.heap.size W w' :=
  h.mono fun _ _ ⟨h1, h2⟩ => ⟨v, h1, rfl, hw.trans (h2.mono hw.size)⟩
end
theorem kf52 (vs : Array Value) (w : World) : (callFunc 52 vs).run Tryd.prog w = .ok (.enter 52 vs) w := by go_simp
theorem kf29 (vs : Array Value) (w : World) : (callFunc 29 vs).run Tryd.prog w = .ok (.enter 29 vs) w := by go_simp
theorem kf36 (vs : Array Value) (w : World) : (callFunc 36 vs).run Tryd.prog w = .ok (.enter 36 vs) w := by go_simp
theorem kf33 (vs : Array Value) (w : World) : (callFunc 33 vs).run Tryd.prog w = .ok (.enter 33 vs) w := by go_simp
theorem kf34 (vs : Array Value) (w : World) : (callFunc 34 vs).run Tryd.prog w = .ok (.enter 34 vs) w := by go_simp
theorem kf55 (vs : Array Value) (w : World) : (callFunc 55 vs).run Tryd.prog w = .ok (.enter 55 vs) w := by go_simp
theorem kf28 (vs : Array Value) (w : World) : (callFunc 28 vs).run Tryd.prog w = .ok (.enter 28 vs) w := by go_simp
theorem kf25 (vs : Array Value) (w : World) : (callFunc 25 vs).run Tryd.prog w = .ok (.enter 25 vs) w := by go_simp
theorem kf35 (vs : Array Value) (w : World) : (callFunc 35 vs).run Tryd.prog w = .ok (.enter 35 vs) w := by go_simp
theorem kf51 (vs : Array Value) (w : World) : (callFunc 51 vs).run Tryd.prog w = .ok (.enter 51 vs) w := by go_simp
theorem kf56 (vs : Array Value) (w : World) : (callFunc 56 vs).run Tryd.prog w = .ok (.enter 56 vs) w := by go_simp
theorem kf58 (vs : Array Value) (w : World) : (callFunc 58 vs).run Tryd.prog w = .ok (.enter 58 vs) w := by go_simp
theorem kf53 (vs : Array Value) (w : World) : (callFunc 53 vs).run Tryd.prog w = .ok (.enter 53 vs) w := by go_simp
end Go.Proofs.YtpenicjlpiechaaDoor.Wd
namespace Go.Proofs.YtpenicjlpiechaaDoor.Wd
set_option maxRecDepth 10000
open Go Go.RowKit
theorem mul_l (X Y : Nat) (U V : Int) (hX : X < 18446744073709551616) (hY : Y < 18446744073709551616) (hU : Hid (((X * Y / 18446744073709551616 : Nat) : Int) = U)) (hV : Hid (((X * Y % 18446744073709551616 : Nat) : Int) = V)) (w : World) :
    Calls Tryd.prog 80 #[.int .u64 X, .int .u64 Y] w fun e w' => e = .returned (.tuple #[.int .u64 U, .int .u64 V]) ∧ w' = w := by
  have h := mul_any X Y hX hY w
  rwa [hU.out, hV.out] at h
theorem one_pair (x y : Int) : ∀ v ∈ [Value.int .i64 x, .int .u64 y], v.oneCell' = true := by
  intro v hv
  simp only [List.mem_cons, List.not_mem_nil, or_false] at hv
  rcases hv with rfl | rfl <;> rfl
theorem mul_split (a b : Int) (X Y : Nat) (sa sb : Int) (hX : a + sa * 18446744073709551616 = X) (hY : b + sb * 18446744073709551616 = Y) :
    a * b = (X : Int) * Y - (sa * b + sb * a + sa * sb * 18446744073709551616) * 18446744073709551616 := by
  rw [← hX, ← hY, Int.add_mul, Int.mul_add, Int.mul_add]
  have e1 : a * (sb * 18446744073709551616) = sb * a * 18446744073709551616 := by rw [← Int.mul_assoc, Int.mul_comm a sb]
  have e2 : sa * 18446744073709551616 * b = sa * b * 18446744073709551616 := by rw [Int.mul_right_comm]
  have e3 : sa * 18446744073709551616 * (sb * 18446744073709551616) = sa * sb * 18446744073709551616 * 18446744073709551616 := by
    rw [← Int.mul_assoc, Int.mul_right_comm sa, Int.mul_assoc, Int.mul_assoc]
  rw [e1, e2, e3]
  omega

theorem prod_bound (a b : Int) (ha : -9223372036854775808 ≤ a ∧ a < 9223372036854775808) (hb : -9223372036854775808 ≤ b ∧ b < 9223372036854775808) : -85070591730234615865843651857942052864 ≤ a * b ∧ a * b ≤ 85070591730234615865843651857942052864 := by
  have h : (a * b).natAbs ≤ 9223372036854775808 * 9223372036854775808 := by
    rw [Int.natAbs_mul]
    exact Nat.mul_le_mul (by omega) (by omega)
  omega

set_option maxRecDepth 10000 in
set_option maxHeartbeats 2000000 in
theorem times_00 (a b : Int) (w : World) (ha : In64 a) (hb : In64 b) (na : ¬ a < 0) (nb : ¬ b < 0) :
    Calls Tryd.prog 73 #[.int .i64 a, .int .i64 b] w fun e w' => e = .returned (.agg (nl (a * b)).toArray) ∧ Below w.heap.size w w' := by
  unfold In64 at ha hb
  obtain ⟨X, hX⟩ := Int.eq_ofNat_of_zero_le (show 0 ≤ a + 0 * 18446744073709551616 by omega)
  obtain ⟨Y, hY⟩ := Int.eq_ofNat_of_zero_le (show 0 ≤ b + 0 * 18446744073709551616 by omega)
  have hXl : X < 18446744073709551616 := by omega
  have hYl : Y < 18446744073709551616 := by omega
  have hsp := mul_split a b X Y 0 0 hX hY
  have hbd : -85070591730234615865843651857942052864 ≤ a * b ∧ a * b ≤ 85070591730234615865843651857942052864 := prod_bound a b ha hb
  obtain ⟨Z, hZ⟩ : ∃ Z : Nat, X * Y = Z := ⟨_, rfl⟩
  have hZ2 : (X : Int) * Y = Z := by rw [← hZ]; exact (Int.natCast_mul X Y).symm
  rw [hZ2] at hsp
  obtain ⟨U, hU⟩ : ∃ U : Int, ((X * Y / 18446744073709551616 : Nat) : Int) = U := ⟨_, rfl⟩
  obtain ⟨V, hV⟩ : ∃ V : Int, ((X * Y % 18446744073709551616 : Nat) : Int) = V := ⟨_, rfl⟩
  have hU' := hU; have hV' := hV
  rw [hZ] at hU' hV'
  have g1 : IntKind.u64.wrap a = X := by rw [IntKind.wrap_u64]; omega
  have g2 : IntKind.u64.wrap b = Y := by rw [IntKind.wrap_u64]; omega
  obtain ⟨G, hG⟩ : ∃ G : Int, IntKind.i64.wrap U = G := ⟨_, rfl⟩
  have hG' := hG
  rw [IntKind.wrap_i64] at hG'
  have hN : Hid (Value.agg (nl (a * b)).toArray = .agg #[.int .i64 G, .int .u64 V]) := by
    show _ = _
    generalize a * b = M at hsp hbd ⊢
    exact nl_mk M G V (by omega) (by omega) (by omega)
  replace hU : Hid _ := hU
  replace hV : Hid _ := hV
  clear hU' hV' hZ hZ2 hsp hbd hG' hX hY
  go_enter Tryd.func73, Tryd.ntmps73
  go_wp2_with (first
    | ((with_reducible refine at_allocD 4 60 ?_); refine L_alloc 60 (nl 0) zeroN ?_; intro w1 t_ b_r; have l_r : w.heap.size ≤ w.heap.size := Nat.le_refl _; have hB : Below w.heap.size w w1 := t_.below (Below.refl _ _) (Nat.le_refl _); clear t_))
  refine (mul_l X Y U V hXl hYl hU hV w1).mono ?_
  rintro e w2 ⟨rfl, rfl⟩
  go_wp2_with (first
    | ((with_reducible refine at_storeX 4 60 ?_); refine L_store_all 60 _ _ (w.heap.size) ([.int .i64 G, .int .u64 V]) _ 60 rfl rfl b_r (szN 0) (rfl) (one_pair _ _) ?_; clear b_r; intro w2 t_ b_r; replace hB := t_.below hB l_r; clear t_))
  (try simp only [Exit.inBlock, Exit.then])
  exact bodyPost_ret (results_blk rfl _ [.int .i64 G, .int .u64 V] _ rfl b_r Tryd.underlying60 rfl (szN 0)) rfl ⟨by rw [hN.out], hB⟩

set_option maxRecDepth 10000 in
set_option maxHeartbeats 2000000 in
theorem times_01 (a b : Int) (w : World) (ha : In64 a) (hb : In64 b) (na : ¬ a < 0) (nb : b < 0) :
    Calls Tryd.prog 73 #[.int .i64 a, .int .i64 b] w fun e w' => e = .returned (.agg (nl (a * b)).toArray) ∧ Below w.heap.size w w' := by
  unfold In64 at ha hb
  obtain ⟨X, hX⟩ := Int.eq_ofNat_of_zero_le (show 0 ≤ a + 0 * 18446744073709551616 by omega)
  obtain ⟨Y, hY⟩ := Int.eq_ofNat_of_zero_le (show 0 ≤ b + 1 * 18446744073709551616 by omega)
  have hXl : X < 18446744073709551616 := by omega
  have hYl : Y < 18446744073709551616 := by omega
  have hsp := mul_split a b X Y 0 1 hX hY
  have hbd : -85070591730234615865843651857942052864 ≤ a * b ∧ a * b ≤ 85070591730234615865843651857942052864 := prod_bound a b ha hb
  obtain ⟨Z, hZ⟩ : ∃ Z : Nat, X * Y = Z := ⟨_, rfl⟩
  have hZ2 : (X : Int) * Y = Z := by rw [← hZ]; exact (Int.natCast_mul X Y).symm
  rw [hZ2] at hsp
  obtain ⟨U, hU⟩ : ∃ U : Int, ((X * Y / 18446744073709551616 : Nat) : Int) = U := ⟨_, rfl⟩
  obtain ⟨V, hV⟩ : ∃ V : Int, ((X * Y % 18446744073709551616 : Nat) : Int) = V := ⟨_, rfl⟩
  have hU' := hU; have hV' := hV
  rw [hZ] at hU' hV'
  have g1 : IntKind.u64.wrap a = X := by rw [IntKind.wrap_u64]; omega
  have g2 : IntKind.u64.wrap b = Y := by rw [IntKind.wrap_u64]; omega
  obtain ⟨U2, hU2⟩ : ∃ U2 : Int, (U - X) % 18446744073709551616 = U2 := ⟨_, rfl⟩
  have f2 : IntKind.u64.wrap (U - X) = U2 := by rw [IntKind.wrap_u64]; omega
  obtain ⟨G, hG⟩ : ∃ G : Int, IntKind.i64.wrap U2 = G := ⟨_, rfl⟩
  have hG' := hG
  rw [IntKind.wrap_i64] at hG'
  have hN : Hid (Value.agg (nl (a * b)).toArray = .agg #[.int .i64 G, .int .u64 V]) := by
    show _ = _
    generalize a * b = M at hsp hbd ⊢
    exact nl_mk M G V (by omega) (by omega) (by omega)
  replace hU : Hid _ := hU
  replace hV : Hid _ := hV
  clear hU' hV' hZ hZ2 hsp hbd hG' hU2 hX hY
  go_enter Tryd.func73, Tryd.ntmps73
  go_wp2_with (first
    | ((with_reducible refine at_allocD 4 60 ?_); refine L_alloc 60 (nl 0) zeroN ?_; intro w1 t_ b_r; have l_r : w.heap.size ≤ w.heap.size := Nat.le_refl _; have hB : Below w.heap.size w w1 := t_.below (Below.refl _ _) (Nat.le_refl _); clear t_))
  refine (mul_l X Y U V hXl hYl hU hV w1).mono ?_
  rintro e w2 ⟨rfl, rfl⟩
  go_wp2_with (first
    | ((with_reducible refine at_storeX 4 60 ?_); refine L_store_all 60 _ _ (w.heap.size) ([.int .i64 G, .int .u64 V]) _ 60 rfl rfl b_r (szN 0) (rfl) (one_pair _ _) ?_; clear b_r; intro w2 t_ b_r; replace hB := t_.below hB l_r; clear t_))
  (try simp only [Exit.inBlock, Exit.then])
  exact bodyPost_ret (results_blk rfl _ [.int .i64 G, .int .u64 V] _ rfl b_r Tryd.underlying60 rfl (szN 0)) rfl ⟨by rw [hN.out], hB⟩

set_option maxRecDepth 10000 in
set_option maxHeartbeats 2000000 in
theorem times_10 (a b : Int) (w : World) (ha : In64 a) (hb : In64 b) (na : a < 0) (nb : ¬ b < 0) :
    Calls Tryd.prog 73 #[.int .i64 a, .int .i64 b] w fun e w' => e = .returned (.agg (nl (a * b)).toArray) ∧ Below w.heap.size w w' := by
  unfold In64 at ha hb
  obtain ⟨X, hX⟩ := Int.eq_ofNat_of_zero_le (show 0 ≤ a + 1 * 18446744073709551616 by omega)
  obtain ⟨Y, hY⟩ := Int.eq_ofNat_of_zero_le (show 0 ≤ b + 0 * 18446744073709551616 by omega)
  have hXl : X < 18446744073709551616 := by omega
  have hYl : Y < 18446744073709551616 := by omega
  have hsp := mul_split a b X Y 1 0 hX hY
  have hbd : -85070591730234615865843651857942052864 ≤ a * b ∧ a * b ≤ 85070591730234615865843651857942052864 := prod_bound a b ha hb
  obtain ⟨Z, hZ⟩ : ∃ Z : Nat, X * Y = Z := ⟨_, rfl⟩
  have hZ2 : (X : Int) * Y = Z := by rw [← hZ]; exact (Int.natCast_mul X Y).symm
  rw [hZ2] at hsp
  obtain ⟨U, hU⟩ : ∃ U : Int, ((X * Y / 18446744073709551616 : Nat) : Int) = U := ⟨_, rfl⟩
  obtain ⟨V, hV⟩ : ∃ V : Int, ((X * Y % 18446744073709551616 : Nat) : Int) = V := ⟨_, rfl⟩
  have hU' := hU; have hV' := hV
  rw [hZ] at hU' hV'
  have g1 : IntKind.u64.wrap a = X := by rw [IntKind.wrap_u64]; omega
  have g2 : IntKind.u64.wrap b = Y := by rw [IntKind.wrap_u64]; omega
  obtain ⟨U1, hU1⟩ : ∃ U1 : Int, (U - Y) % 18446744073709551616 = U1 := ⟨_, rfl⟩
  have f1 : IntKind.u64.wrap (U - Y) = U1 := by rw [IntKind.wrap_u64]; omega
  obtain ⟨G, hG⟩ : ∃ G : Int, IntKind.i64.wrap U1 = G := ⟨_, rfl⟩
  have hG' := hG
  rw [IntKind.wrap_i64] at hG'
  have hN : Hid (Value.agg (nl (a * b)).toArray = .agg #[.int .i64 G, .int .u64 V]) := by
    show _ = _
    generalize a * b = M at hsp hbd ⊢
    exact nl_mk M G V (by omega) (by omega) (by omega)
  replace hU : Hid _ := hU
  replace hV : Hid _ := hV
  clear hU' hV' hZ hZ2 hsp hbd hG' hU1 hX hY
  go_enter Tryd.func73, Tryd.ntmps73
  go_wp2_with (first
    | ((with_reducible refine at_allocD 4 60 ?_); refine L_alloc 60 (nl 0) zeroN ?_; intro w1 t_ b_r; have l_r : w.heap.size ≤ w.heap.size := Nat.le_refl _; have hB : Below w.heap.size w w1 := t_.below (Below.refl _ _) (Nat.le_refl _); clear t_))
  refine (mul_l X Y U V hXl hYl hU hV w1).mono ?_
  rintro e w2 ⟨rfl, rfl⟩
  go_wp2_with (first
    | ((with_reducible refine at_storeX 4 60 ?_); refine L_store_all 60 _ _ (w.heap.size) ([.int .i64 G, .int .u64 V]) _ 60 rfl rfl b_r (szN 0) (rfl) (one_pair _ _) ?_; clear b_r; intro w2 t_ b_r; replace hB := t_.below hB l_r; clear t_))
  (try simp only [Exit.inBlock, Exit.then])
  exact bodyPost_ret (results_blk rfl _ [.int .i64 G, .int .u64 V] _ rfl b_r Tryd.underlying60 rfl (szN 0)) rfl ⟨by rw [hN.out], hB⟩

set_option maxRecDepth 10000 in
set_option maxHeartbeats 2000000 in
theorem times_11 (a b : Int) (w : World) (ha : In64 a) (hb : In64 b) (na : a < 0) (nb : b < 0) :
    Calls Tryd.prog 73 #[.int .i64 a, .int .i64 b] w fun e w' => e = .returned (.agg (nl (a * b)).toArray) ∧ Below w.heap.size w w' := by
  unfold In64 at ha hb
  obtain ⟨X, hX⟩ := Int.eq_ofNat_of_zero_le (show 0 ≤ a + 1 * 18446744073709551616 by omega)
  obtain ⟨Y, hY⟩ := Int.eq_ofNat_of_zero_le (show 0 ≤ b + 1 * 18446744073709551616 by omega)
  have hXl : X < 18446744073709551616 := by omega
  have hYl : Y < 18446744073709551616 := by omega
  have hsp := mul_split a b X Y 1 1 hX hY
  have hbd : -85070591730234615865843651857942052864 ≤ a * b ∧ a * b ≤ 85070591730234615865843651857942052864 := prod_bound a b ha hb
  obtain ⟨Z, hZ⟩ : ∃ Z : Nat, X * Y = Z := ⟨_, rfl⟩
  have hZ2 : (X : Int) * Y = Z := by rw [← hZ]; exact (Int.natCast_mul X Y).symm
  rw [hZ2] at hsp
  obtain ⟨U, hU⟩ : ∃ U : Int, ((X * Y / 18446744073709551616 : Nat) : Int) = U := ⟨_, rfl⟩
  obtain ⟨V, hV⟩ : ∃ V : Int, ((X * Y % 18446744073709551616 : Nat) : Int) = V := ⟨_, rfl⟩
  have hU' := hU; have hV' := hV
  rw [hZ] at hU' hV'
  have g1 : IntKind.u64.wrap a = X := by rw [IntKind.wrap_u64]; omega
  have g2 : IntKind.u64.wrap b = Y := by rw [IntKind.wrap_u64]; omega
  obtain ⟨U1, hU1⟩ : ∃ U1 : Int, (U - Y) % 18446744073709551616 = U1 := ⟨_, rfl⟩
  obtain ⟨U2, hU2⟩ : ∃ U2 : Int, (U1 - X) % 18446744073709551616 = U2 := ⟨_, rfl⟩
  have f1 : IntKind.u64.wrap (U - Y) = U1 := by rw [IntKind.wrap_u64]; omega
  have f2 : IntKind.u64.wrap (U1 - X) = U2 := by rw [IntKind.wrap_u64]; omega
  obtain ⟨G, hG⟩ : ∃ G : Int, IntKind.i64.wrap U2 = G := ⟨_, rfl⟩
  have hG' := hG
  rw [IntKind.wrap_i64] at hG'
  have hN : Hid (Value.agg (nl (a * b)).toArray = .agg #[.int .i64 G, .int .u64 V]) := by
    show _ = _
    generalize a * b = M at hsp hbd ⊢
    exact nl_mk M G V (by omega) (by omega) (by omega)
  replace hU : Hid _ := hU
  replace hV : Hid _ := hV
  clear hU' hV' hZ hZ2 hsp hbd hG' hU1 hU2 hX hY
  go_enter Tryd.func73, Tryd.ntmps73
  go_wp2_with (first
    | ((with_reducible refine at_allocD 4 60 ?_); refine L_alloc 60 (nl 0) zeroN ?_; intro w1 t_ b_r; have l_r : w.heap.size ≤ w.heap.size := Nat.le_refl _; have hB : Below w.heap.size w w1 := t_.below (Below.refl _ _) (Nat.le_refl _); clear t_))
  refine (mul_l X Y U V hXl hYl hU hV w1).mono ?_
  rintro e w2 ⟨rfl, rfl⟩
  go_wp2_with (first
    | ((with_reducible refine at_storeX 4 60 ?_); refine L_store_all 60 _ _ (w.heap.size) ([.int .i64 G, .int .u64 V]) _ 60 rfl rfl b_r (szN 0) (rfl) (one_pair _ _) ?_; clear b_r; intro w2 t_ b_r; replace hB := t_.below hB l_r; clear t_))
  (try simp only [Exit.inBlock, Exit.then])
  exact bodyPost_ret (results_blk rfl _ [.int .i64 G, .int .u64 V] _ rfl b_r Tryd.underlying60 rfl (szN 0)) rfl ⟨by rw [hN.out], hB⟩

theorem times_any (a b : Int) (w : World) (ha : In64 a) (hb : In64 b) :
    Calls Tryd.prog 73 #[.int .i64 a, .int .i64 b] w fun e w' => e = .returned (.agg (nl (a * b)).toArray) ∧ Below w.heap.size w w' := by
  by_cases na : a < 0 <;> by_cases nb : b < 0
  · exact times_11 a b w ha hb na nb
  · exact times_10 a b w ha hb na nb
  · exact times_01 a b w ha hb na nb
  · exact times_00 a b w ha hb na nb
end Go.Proofs.YtpenicjlpiechaaDoor.Wd
namespace Go.Proofs.YtpenicjlpiechaaDoor.Wd
set_option maxRecDepth 10000
open Go Go.RowKit
set_option linter.unusedVariables false
theorem nl0 (z h : Int) (e : z / 18446744073709551616 = h) : (nl z)[0]? = some (.int .i64 h) := by subst e; rfl
theorem nl1 (z l : Int) (e : z % 18446744073709551616 = l) : (nl z)[1]? = some (.int .u64 l) := by subst e; rfl

set_option maxRecDepth 10000 in
set_option maxHeartbeats 2000000 in
theorem int_ok (z : Int) (w : World) (hz : In64 z) :
    Calls Tryd.prog 25 #[.agg (nl z).toArray] w fun e w' => e = .returned (.tuple #[.int .i64 z, .int .i64 0]) ∧ Below w.heap.size w w' := by
  unfold In64 at hz
  obtain ⟨h, hh⟩ : ∃ h, z / 18446744073709551616 = h := ⟨_, rfl⟩
  obtain ⟨l, hl⟩ : ∃ l, z % 18446744073709551616 = l := ⟨_, rfl⟩
  obtain ⟨n, hw⟩ : ∃ n, IntKind.i64.wrap l = n := ⟨_, rfl⟩
  have hw' := hw
  rw [IntKind.wrap_i64] at hw'
  have hn : Hid (In64 n) := by show In64 n; unfold In64; omega
  obtain rfl : n = z := by omega
  replace hh : Hid _ := hh
  replace hl : Hid _ := hl
  clear hz hw'
  go_enter Tryd.func25, Tryd.ntmps25
  go_wp2_with (first
    | ((with_reducible refine at_boxD 1 60 ?_); refine L_box 60 _ (nl n) rfl ?_; intro w1 t_ b_a; have l_a : w.heap.size ≤ w.heap.size := Nat.le_refl _; have hB : Below w.heap.size w w1 := t_.below (Below.refl _ _) (Nat.le_refl _); clear t_)
    | ((with_reducible refine at_loadD 6 34 ?_); refine L_cell34 _ (w.heap.size) 1 (nl n) 60 (.int .u64 (l)) rfl b_a (nl1 _ _ hl.out) ?_)
    | ((with_reducible refine stop_region 2 ?_); intro X1 hX1))
  refine hX1.out ?_
  clear hX1
  refine wp_region_fixed (by kernel_rfl) (by kernel_rfl) [.int .i64 (n), .agg (nl (n)).toArray, .agg (nl n).toArray, .bool false] (by rfl) (fun w9 => Below w1.heap.size w1 w9) (Below.refl _ _).drew ?_ ?_
  · simp only [fullL, Act.put, List.setIfInBounds_toArray, List.set_cons_succ, List.set_cons_zero]
    refine ⟨?_, ?_, ?_, ?_, trivial⟩
    · exact fun w9 hw => gw rfl (g_move _ _ rfl ⟨rfl, hw⟩)
    · exact fun w9 hw => gw rfl (g_call 29 _ _ [.int .i64 (n)] (kf29 _ _) rfl (mono_val hw (of_any n w9 hn.out)))
    · exact fun w9 hw => gw rfl (g_load_all 60 _ (w.heap.size) _ 60 _ rfl (b_a.below hw b_a.lt) Tryd.underlying60 rfl (szN 0) ⟨rfl, hw⟩)
    · exact fun w9 hw => gw rfl (g_neqN _ _ (n) n true rfl rfl (decide_eq_true rfl) ⟨rfl, hw⟩)
  simp only [fullL, Act.put, List.setIfInBounds_toArray, List.set_cons_succ, List.set_cons_zero]
  intro w2 hw
  replace b_a := b_a.below hw b_a.lt
  replace hB := hB.trans (hw.mono hB.size)
  clear hw
  go_wp2_with fail
  go_ret2
  exact ⟨rfl, hB⟩

set_option maxRecDepth 10000 in
set_option maxHeartbeats 2000000 in
theorem int_over (z : Int) (w : World) (hz : ¬ In64 z) :
    Calls Tryd.prog 25 #[.agg (nl z).toArray] w fun e w' => e = .returned (.tuple #[.int .i64 0, .int .i64 6]) ∧ Below w.heap.size w w' := by
  obtain ⟨h, hh⟩ : ∃ h, z / 18446744073709551616 = h := ⟨_, rfl⟩
  obtain ⟨l, hl⟩ : ∃ l, z % 18446744073709551616 = l := ⟨_, rfl⟩
  obtain ⟨n, hw⟩ : ∃ n, IntKind.i64.wrap l = n := ⟨_, rfl⟩
  have hw' := hw
  rw [IntKind.wrap_i64] at hw'
  have hn : Hid (In64 n) := by show In64 n; unfold In64; omega
  have hd : Hid (decide (n = z) = false) := decide_eq_false (fun h => hz (h ▸ hn.out))
  replace hh : Hid _ := hh
  replace hl : Hid _ := hl
  clear hz hw'
  go_enter Tryd.func25, Tryd.ntmps25
  go_wp2_with (first
    | ((with_reducible refine at_boxD 1 60 ?_); refine L_box 60 _ (nl (z)) rfl ?_; intro w1 t_ b_a; have l_a : w.heap.size ≤ w.heap.size := Nat.le_refl _; have hB : Below w.heap.size w w1 := t_.below (Below.refl _ _) (Nat.le_refl _); clear t_)
    | ((with_reducible refine at_loadD 6 34 ?_); refine L_cell34 _ (w.heap.size) 1 (nl (z)) 60 (.int .u64 (l)) rfl b_a (nl1 _ _ hl.out) ?_)
    | ((with_reducible refine stop_region 2 ?_); intro X1 hX1))
  refine hX1.out ?_
  clear hX1
  refine wp_region_fixed (by kernel_rfl) (by kernel_rfl) [.int .i64 (n), .agg (nl (n)).toArray, .agg (nl (z)).toArray, .bool true] (by rfl) (fun w9 => Below w1.heap.size w1 w9) (Below.refl _ _).drew ?_ ?_
  · simp only [fullL, Act.put, List.setIfInBounds_toArray, List.set_cons_succ, List.set_cons_zero]
    refine ⟨?_, ?_, ?_, ?_, trivial⟩
    · exact fun w9 hw => gw rfl (g_move _ _ rfl ⟨rfl, hw⟩)
    · exact fun w9 hw => gw rfl (g_call 29 _ _ [.int .i64 (n)] (kf29 _ _) rfl (mono_val hw (of_any n w9 hn.out)))
    · exact fun w9 hw => gw rfl (g_load_all 60 _ (w.heap.size) _ 60 _ rfl (b_a.below hw b_a.lt) Tryd.underlying60 rfl (szN 0) ⟨rfl, hw⟩)
    · exact fun w9 hw => gw rfl (g_neqN _ _ (n) (z) false rfl rfl (hd.out) ⟨rfl, hw⟩)
  simp only [fullL, Act.put, List.setIfInBounds_toArray, List.set_cons_succ, List.set_cons_zero]
  intro w2 hw
  replace b_a := b_a.below hw b_a.lt
  replace hB := hB.trans (hw.mono hB.size)
  clear hw
  go_wp2_with fail
  go_ret2
  exact ⟨rfl, hB⟩

set_option maxRecDepth 10000 in
set_option maxHeartbeats 2000000 in
theorem add_ok_11 (a b : Int) (w : World) (ha : In128 a) (hb : In128 b) (na : a < 0) (nb : b < 0) (ho : In128 (a + b)) :
    Calls Tryd.prog 52 #[.agg (nl a).toArray, .agg (nl b).toArray] w fun e w' => e = .returned (.tuple #[.agg (nl (a + b)).toArray, .int .i64 0]) ∧ Below w.heap.size w w' := by
  unfold In128 at ha hb ho
  obtain ⟨ah, hah⟩ : ∃ h, a / 18446744073709551616 = h := ⟨_, rfl⟩
  obtain ⟨al, hal⟩ : ∃ l, a % 18446744073709551616 = l := ⟨_, rfl⟩
  obtain ⟨bh, hbh⟩ : ∃ h, b / 18446744073709551616 = h := ⟨_, rfl⟩
  obtain ⟨bl, hbl⟩ : ∃ l, b % 18446744073709551616 = l := ⟨_, rfl⟩
  obtain ⟨sl, hsl⟩ : ∃ s, (al + bl) % 18446744073709551616 = s := ⟨_, rfl⟩
  obtain ⟨sc, hsc⟩ : ∃ s : Int, ((al + bl) / 18446744073709551616) = s := ⟨_, rfl⟩
  have fx := fun v => f31_any al bl (by omega) (by omega) v
  rw [hsl, hsc] at fx
  have hsc1 : sc = 0 ∨ sc = 1 := by omega
  have hv : al + bl = sc * 18446744073709551616 + sl := by omega
  obtain ⟨s1, hs1⟩ : ∃ s, IntKind.i64.wrap (ah + bh) = s := ⟨_, rfl⟩
  have f1 : IntKind.i64.wrap sc = sc := by rw [IntKind.wrap_i64]; omega
  obtain ⟨s2, hs2⟩ : ∃ s, IntKind.i64.wrap (s1 + sc) = s := ⟨_, rfl⟩
  have hs1' := hs1; have hs2' := hs2
  rw [IntKind.wrap_i64] at hs1' hs2'
  have hns : s2 < 0 := by omega
  have hN : Hid (Value.agg (nl (a + b)).toArray = .agg #[.int .i64 s2, .int .u64 sl]) := nl_mk _ _ _ (by omega) (by omega) (by omega)
  replace hah : Hid _ := hah
  replace hal : Hid _ := hal
  replace hbh : Hid _ := hbh
  replace hbl : Hid _ := hbl
  clear ho hs1' hs2' hsl hsc hv hsc1 ha hb
  go_enter Tryd.func52, Tryd.ntmps52
  go_wp2_with (first
    | ((with_reducible refine at_boxD 2 60 ?_); refine L_box 60 _ (nl (a)) rfl ?_; intro w1 t_ b_a; have l_a : w.heap.size ≤ w.heap.size := Nat.le_refl _; have hB : Below w.heap.size w w1 := t_.below (Below.refl _ _) (Nat.le_refl _); clear t_)
    | ((with_reducible refine at_boxD 3 60 ?_); refine L_box 60 _ (nl (b)) rfl ?_; intro w2 t_ b_b; have l_b : w.heap.size ≤ w1.heap.size := hB.size; have o_b := b_a.lt; replace b_a := t_.blk b_a (by omega); replace hB := t_.below hB l_b; clear t_)
    | ((with_reducible refine at_allocD 4 60 ?_); refine L_alloc 60 (nl (0)) zeroN ?_; intro w3 t_ b_r; have l_r : w.heap.size ≤ w2.heap.size := hB.size; have o_r := b_b.lt; replace b_a := t_.blk b_a (by omega); replace b_b := t_.blk b_b (by omega); replace hB := t_.below hB l_r; clear t_)
    | ((with_reducible refine at_loadD 11 34 ?_); refine L_cell34 _ (w.heap.size) 1 (nl (a)) 60 (.int .u64 (al)) rfl b_a (nl1 _ _ hal.out) ?_)
    | ((with_reducible refine at_loadD 13 34 ?_); refine L_cell34 _ (w1.heap.size) 1 (nl (b)) 60 (.int .u64 (bl)) rfl b_b (nl1 _ _ hbl.out) ?_)
    | ((with_reducible refine at_loadD 18 2 ?_); refine L_cell2 _ (w.heap.size) 0 (nl (a)) 60 (.int .i64 (ah)) rfl b_a (nl0 _ _ hah.out) ?_)
    | ((with_reducible refine at_loadD 20 2 ?_); refine L_cell2 _ (w1.heap.size) 0 (nl (b)) 60 (.int .i64 (bh)) rfl b_b (nl0 _ _ hbh.out) ?_)
    | ((with_reducible refine stop_region 3 ?_); intro X1 hX1))
  refine hX1.out ?_
  clear hX1
  refine wp_region_fixed (by kernel_rfl) (by kernel_rfl) [.agg (nl (a)).toArray, .bool true, .agg (nl (b)).toArray, .bool true, .bool true, .bool true, .int .i64 (s2), .bool true, .agg (nl (a)).toArray, .bool true, .bool false, .bool false] (by rfl) (fun w9 => Below w3.heap.size w3 w9) (Below.refl _ _).drew ?_ ?_
  · simp only [fullL, Act.put, List.setIfInBounds_toArray, List.set_cons_succ, List.set_cons_zero]
    refine ⟨?_, ?_, ?_, ?_, ?_, ?_, ?_, ?_, ?_, ?_, ?_, ?_, trivial⟩
    · exact fun w9 hw => gw rfl (g_load_all 60 _ (w.heap.size) _ 60 _ rfl (b_a.below hw b_a.lt) Tryd.underlying60 rfl (szN 0) ⟨rfl, hw⟩)
    · exact fun w9 hw => gw rfl (g_call 51 _ _ [.agg (nl (a)).toArray] (kf51 _ _) rfl (mono_val hw (below_neg a (by omega) w9)))
    · exact fun w9 hw => gw rfl (g_load_all 60 _ (w1.heap.size) _ 60 _ rfl (b_b.below hw b_b.lt) Tryd.underlying60 rfl (szN 0) ⟨rfl, hw⟩)
    · exact fun w9 hw => gw rfl (g_call 51 _ _ [.agg (nl (b)).toArray] (kf51 _ _) rfl (mono_val hw (below_neg b (by omega) w9)))
    · exact fun w9 hw => gw rfl (g_beql _ _ _ _ rfl rfl ⟨rfl, hw⟩)
    · exact fun w9 hw => gw rfl (g_move _ _ rfl ⟨rfl, hw⟩)
    · exact fun w9 hw => gw rfl (g_move _ _ rfl ⟨rfl, hw⟩)
    · exact fun w9 hw => gw rfl (g_ilss 2 _ _ .i64 _ _ true rfl rfl (decide_eq_true (by omega)) ⟨rfl, hw⟩)
    · exact fun w9 hw => gw rfl (g_load_all 60 _ (w.heap.size) _ 60 _ rfl (b_a.below hw b_a.lt) Tryd.underlying60 rfl (szN 0) ⟨rfl, hw⟩)
    · exact fun w9 hw => gw rfl (g_call 51 _ _ [.agg (nl (a)).toArray] (kf51 _ _) rfl (mono_val hw (below_neg a (by omega) w9)))
    · exact fun w9 hw => gw rfl (g_bneq _ _ _ _ rfl rfl ⟨rfl, hw⟩)
    · exact fun w9 hw => gw rfl (g_pickt _ _ _ _ rfl rfl ⟨rfl, hw⟩)
  simp only [fullL, Act.put, List.setIfInBounds_toArray, List.set_cons_succ, List.set_cons_zero]
  intro w4 hw
  replace b_a := b_a.below hw b_a.lt
  replace b_b := b_b.below hw b_b.lt
  replace b_r := b_r.below hw b_r.lt
  replace hB := hB.trans (hw.mono hB.size)
  clear hw
  go_wp2_with (first
    | ((with_reducible refine at_storeX 4 60 ?_); refine L_store_all 60 _ _ (w2.heap.size) ([.int .i64 (s2), .int .u64 (sl)]) _ 60 rfl rfl b_r (szN 0) (rfl) (one_pair _ _) ?_; clear b_r; intro w5 t_ b_r; replace b_a := t_.blk b_a (by omega); replace b_b := t_.blk b_b (by omega); replace hB := t_.below hB l_r; clear t_))
  (try simp only [Exit.inBlock, Exit.then])
  exact bodyPost_ret (results_blk_tmp rfl _ ([.int .i64 s2, .int .u64 sl]) (.int .i64 0) _ rfl rfl b_r Tryd.underlying60 rfl (szN 0)) rfl ⟨by rw [hN.out], hB⟩

set_option maxRecDepth 10000 in
set_option maxHeartbeats 2000000 in
theorem add_ok_10 (a b : Int) (w : World) (ha : In128 a) (hb : In128 b) (na : a < 0) (nb : ¬ b < 0) (ho : In128 (a + b)) :
    Calls Tryd.prog 52 #[.agg (nl a).toArray, .agg (nl b).toArray] w fun e w' => e = .returned (.tuple #[.agg (nl (a + b)).toArray, .int .i64 0]) ∧ Below w.heap.size w w' := by
  unfold In128 at ha hb ho
  obtain ⟨ah, hah⟩ : ∃ h, a / 18446744073709551616 = h := ⟨_, rfl⟩
  obtain ⟨al, hal⟩ : ∃ l, a % 18446744073709551616 = l := ⟨_, rfl⟩
  obtain ⟨bh, hbh⟩ : ∃ h, b / 18446744073709551616 = h := ⟨_, rfl⟩
  obtain ⟨bl, hbl⟩ : ∃ l, b % 18446744073709551616 = l := ⟨_, rfl⟩
  obtain ⟨sl, hsl⟩ : ∃ s, (al + bl) % 18446744073709551616 = s := ⟨_, rfl⟩
  obtain ⟨sc, hsc⟩ : ∃ s : Int, ((al + bl) / 18446744073709551616) = s := ⟨_, rfl⟩
  have fx := fun v => f31_any al bl (by omega) (by omega) v
  rw [hsl, hsc] at fx
  have hsc1 : sc = 0 ∨ sc = 1 := by omega
  have hv : al + bl = sc * 18446744073709551616 + sl := by omega
  obtain ⟨s1, hs1⟩ : ∃ s, IntKind.i64.wrap (ah + bh) = s := ⟨_, rfl⟩
  have f1 : IntKind.i64.wrap sc = sc := by rw [IntKind.wrap_i64]; omega
  obtain ⟨s2, hs2⟩ : ∃ s, IntKind.i64.wrap (s1 + sc) = s := ⟨_, rfl⟩
  have hs1' := hs1; have hs2' := hs2
  rw [IntKind.wrap_i64] at hs1' hs2'
  have hN : Hid (Value.agg (nl (a + b)).toArray = .agg #[.int .i64 s2, .int .u64 sl]) := nl_mk _ _ _ (by omega) (by omega) (by omega)
  replace hah : Hid _ := hah
  replace hal : Hid _ := hal
  replace hbh : Hid _ := hbh
  replace hbl : Hid _ := hbl
  clear ho hs1' hs2' hsl hsc hv hsc1 ha hb
  go_enter Tryd.func52, Tryd.ntmps52
  go_wp2_with (first
    | ((with_reducible refine at_boxD 2 60 ?_); refine L_box 60 _ (nl (a)) rfl ?_; intro w1 t_ b_a; have l_a : w.heap.size ≤ w.heap.size := Nat.le_refl _; have hB : Below w.heap.size w w1 := t_.below (Below.refl _ _) (Nat.le_refl _); clear t_)
    | ((with_reducible refine at_boxD 3 60 ?_); refine L_box 60 _ (nl (b)) rfl ?_; intro w2 t_ b_b; have l_b : w.heap.size ≤ w1.heap.size := hB.size; have o_b := b_a.lt; replace b_a := t_.blk b_a (by omega); replace hB := t_.below hB l_b; clear t_)
    | ((with_reducible refine at_allocD 4 60 ?_); refine L_alloc 60 (nl (0)) zeroN ?_; intro w3 t_ b_r; have l_r : w.heap.size ≤ w2.heap.size := hB.size; have o_r := b_b.lt; replace b_a := t_.blk b_a (by omega); replace b_b := t_.blk b_b (by omega); replace hB := t_.below hB l_r; clear t_)
    | ((with_reducible refine at_loadD 11 34 ?_); refine L_cell34 _ (w.heap.size) 1 (nl (a)) 60 (.int .u64 (al)) rfl b_a (nl1 _ _ hal.out) ?_)
    | ((with_reducible refine at_loadD 13 34 ?_); refine L_cell34 _ (w1.heap.size) 1 (nl (b)) 60 (.int .u64 (bl)) rfl b_b (nl1 _ _ hbl.out) ?_)
    | ((with_reducible refine at_loadD 18 2 ?_); refine L_cell2 _ (w.heap.size) 0 (nl (a)) 60 (.int .i64 (ah)) rfl b_a (nl0 _ _ hah.out) ?_)
    | ((with_reducible refine at_loadD 20 2 ?_); refine L_cell2 _ (w1.heap.size) 0 (nl (b)) 60 (.int .i64 (bh)) rfl b_b (nl0 _ _ hbh.out) ?_)
    | ((with_reducible refine stop_region 3 ?_); intro X1 hX1))
  refine hX1.out ?_
  clear hX1
  refine wp_region_fixed (by kernel_rfl) (by kernel_rfl) [.agg (nl (a)).toArray, .bool true, .agg (nl (b)).toArray, .bool false, .bool false, .bool false, undef, undef, undef, undef, undef, .bool false] (by rfl) (fun w9 => Below w3.heap.size w3 w9) (Below.refl _ _).drew ?_ ?_
  · simp only [fullL, Act.put, List.setIfInBounds_toArray, List.set_cons_succ, List.set_cons_zero]
    refine ⟨?_, ?_, ?_, ?_, ?_, ?_, ?_, ?_, ?_, ?_, ?_, ?_, trivial⟩
    · exact fun w9 hw => gw rfl (g_load_all 60 _ (w.heap.size) _ 60 _ rfl (b_a.below hw b_a.lt) Tryd.underlying60 rfl (szN 0) ⟨rfl, hw⟩)
    · exact fun w9 hw => gw rfl (g_call 51 _ _ [.agg (nl (a)).toArray] (kf51 _ _) rfl (mono_val hw (below_neg a (by omega) w9)))
    · exact fun w9 hw => gw rfl (g_load_all 60 _ (w1.heap.size) _ 60 _ rfl (b_b.below hw b_b.lt) Tryd.underlying60 rfl (szN 0) ⟨rfl, hw⟩)
    · exact fun w9 hw => gw rfl (g_call 51 _ _ [.agg (nl (b)).toArray] (kf51 _ _) rfl (mono_val hw (below_pos b (by omega) w9)))
    · exact fun w9 hw => gw rfl (g_beql _ _ _ _ rfl rfl ⟨rfl, hw⟩)
    · exact fun w9 hw => gw rfl (g_move _ _ rfl ⟨rfl, hw⟩)
    · exact fun w9 hw => gn rfl ⟨rfl, hw⟩
    · exact fun w9 hw => gn rfl ⟨rfl, hw⟩
    · exact fun w9 hw => gn rfl ⟨rfl, hw⟩
    · exact fun w9 hw => gn rfl ⟨rfl, hw⟩
    · exact fun w9 hw => gn rfl ⟨rfl, hw⟩
    · exact fun w9 hw => gw rfl (g_pickf _ _ _ _ rfl rfl ⟨rfl, hw⟩)
  simp only [fullL, Act.put, List.setIfInBounds_toArray, List.set_cons_succ, List.set_cons_zero]
  intro w4 hw
  replace b_a := b_a.below hw b_a.lt
  replace b_b := b_b.below hw b_b.lt
  replace b_r := b_r.below hw b_r.lt
  replace hB := hB.trans (hw.mono hB.size)
  clear hw
  go_wp2_with (first
    | ((with_reducible refine at_storeX 4 60 ?_); refine L_store_all 60 _ _ (w2.heap.size) ([.int .i64 (s2), .int .u64 (sl)]) _ 60 rfl rfl b_r (szN 0) (rfl) (one_pair _ _) ?_; clear b_r; intro w5 t_ b_r; replace b_a := t_.blk b_a (by omega); replace b_b := t_.blk b_b (by omega); replace hB := t_.below hB l_r; clear t_))
  (try simp only [Exit.inBlock, Exit.then])
  exact bodyPost_ret (results_blk_tmp rfl _ ([.int .i64 s2, .int .u64 sl]) (.int .i64 0) _ rfl rfl b_r Tryd.underlying60 rfl (szN 0)) rfl ⟨by rw [hN.out], hB⟩

set_option maxRecDepth 10000 in
set_option maxHeartbeats 2000000 in
theorem add_ok_01 (a b : Int) (w : World) (ha : In128 a) (hb : In128 b) (na : ¬ a < 0) (nb : b < 0) (ho : In128 (a + b)) :
    Calls Tryd.prog 52 #[.agg (nl a).toArray, .agg (nl b).toArray] w fun e w' => e = .returned (.tuple #[.agg (nl (a + b)).toArray, .int .i64 0]) ∧ Below w.heap.size w w' := by
  unfold In128 at ha hb ho
  obtain ⟨ah, hah⟩ : ∃ h, a / 18446744073709551616 = h := ⟨_, rfl⟩
  obtain ⟨al, hal⟩ : ∃ l, a % 18446744073709551616 = l := ⟨_, rfl⟩
  obtain ⟨bh, hbh⟩ : ∃ h, b / 18446744073709551616 = h := ⟨_, rfl⟩
  obtain ⟨bl, hbl⟩ : ∃ l, b % 18446744073709551616 = l := ⟨_, rfl⟩
  obtain ⟨sl, hsl⟩ : ∃ s, (al + bl) % 18446744073709551616 = s := ⟨_, rfl⟩
  obtain ⟨sc, hsc⟩ : ∃ s : Int, ((al + bl) / 18446744073709551616) = s := ⟨_, rfl⟩
  have fx := fun v => f31_any al bl (by omega) (by omega) v
  rw [hsl, hsc] at fx
  have hsc1 : sc = 0 ∨ sc = 1 := by omega
  have hv : al + bl = sc * 18446744073709551616 + sl := by omega
  obtain ⟨s1, hs1⟩ : ∃ s, IntKind.i64.wrap (ah + bh) = s := ⟨_, rfl⟩
  have f1 : IntKind.i64.wrap sc = sc := by rw [IntKind.wrap_i64]; omega
  obtain ⟨s2, hs2⟩ : ∃ s, IntKind.i64.wrap (s1 + sc) = s := ⟨_, rfl⟩
  have hs1' := hs1; have hs2' := hs2
  rw [IntKind.wrap_i64] at hs1' hs2'
  have hN : Hid (Value.agg (nl (a + b)).toArray = .agg #[.int .i64 s2, .int .u64 sl]) := nl_mk _ _ _ (by omega) (by omega) (by omega)
  replace hah : Hid _ := hah
  replace hal : Hid _ := hal
  replace hbh : Hid _ := hbh
  replace hbl : Hid _ := hbl
  clear ho hs1' hs2' hsl hsc hv hsc1 ha hb
  go_enter Tryd.func52, Tryd.ntmps52
  go_wp2_with (first
    | ((with_reducible refine at_boxD 2 60 ?_); refine L_box 60 _ (nl (a)) rfl ?_; intro w1 t_ b_a; have l_a : w.heap.size ≤ w.heap.size := Nat.le_refl _; have hB : Below w.heap.size w w1 := t_.below (Below.refl _ _) (Nat.le_refl _); clear t_)
    | ((with_reducible refine at_boxD 3 60 ?_); refine L_box 60 _ (nl (b)) rfl ?_; intro w2 t_ b_b; have l_b : w.heap.size ≤ w1.heap.size := hB.size; have o_b := b_a.lt; replace b_a := t_.blk b_a (by omega); replace hB := t_.below hB l_b; clear t_)
    | ((with_reducible refine at_allocD 4 60 ?_); refine L_alloc 60 (nl (0)) zeroN ?_; intro w3 t_ b_r; have l_r : w.heap.size ≤ w2.heap.size := hB.size; have o_r := b_b.lt; replace b_a := t_.blk b_a (by omega); replace b_b := t_.blk b_b (by omega); replace hB := t_.below hB l_r; clear t_)
    | ((with_reducible refine at_loadD 11 34 ?_); refine L_cell34 _ (w.heap.size) 1 (nl (a)) 60 (.int .u64 (al)) rfl b_a (nl1 _ _ hal.out) ?_)
    | ((with_reducible refine at_loadD 13 34 ?_); refine L_cell34 _ (w1.heap.size) 1 (nl (b)) 60 (.int .u64 (bl)) rfl b_b (nl1 _ _ hbl.out) ?_)
    | ((with_reducible refine at_loadD 18 2 ?_); refine L_cell2 _ (w.heap.size) 0 (nl (a)) 60 (.int .i64 (ah)) rfl b_a (nl0 _ _ hah.out) ?_)
    | ((with_reducible refine at_loadD 20 2 ?_); refine L_cell2 _ (w1.heap.size) 0 (nl (b)) 60 (.int .i64 (bh)) rfl b_b (nl0 _ _ hbh.out) ?_)
    | ((with_reducible refine stop_region 3 ?_); intro X1 hX1))
  refine hX1.out ?_
  clear hX1
  refine wp_region_fixed (by kernel_rfl) (by kernel_rfl) [.agg (nl (a)).toArray, .bool false, .agg (nl (b)).toArray, .bool true, .bool false, .bool false, undef, undef, undef, undef, undef, .bool false] (by rfl) (fun w9 => Below w3.heap.size w3 w9) (Below.refl _ _).drew ?_ ?_
  · simp only [fullL, Act.put, List.setIfInBounds_toArray, List.set_cons_succ, List.set_cons_zero]
    refine ⟨?_, ?_, ?_, ?_, ?_, ?_, ?_, ?_, ?_, ?_, ?_, ?_, trivial⟩
    · exact fun w9 hw => gw rfl (g_load_all 60 _ (w.heap.size) _ 60 _ rfl (b_a.below hw b_a.lt) Tryd.underlying60 rfl (szN 0) ⟨rfl, hw⟩)
    · exact fun w9 hw => gw rfl (g_call 51 _ _ [.agg (nl (a)).toArray] (kf51 _ _) rfl (mono_val hw (below_pos a (by omega) w9)))
    · exact fun w9 hw => gw rfl (g_load_all 60 _ (w1.heap.size) _ 60 _ rfl (b_b.below hw b_b.lt) Tryd.underlying60 rfl (szN 0) ⟨rfl, hw⟩)
    · exact fun w9 hw => gw rfl (g_call 51 _ _ [.agg (nl (b)).toArray] (kf51 _ _) rfl (mono_val hw (below_neg b (by omega) w9)))
    · exact fun w9 hw => gw rfl (g_beql _ _ _ _ rfl rfl ⟨rfl, hw⟩)
    · exact fun w9 hw => gw rfl (g_move _ _ rfl ⟨rfl, hw⟩)
    · exact fun w9 hw => gn rfl ⟨rfl, hw⟩
    · exact fun w9 hw => gn rfl ⟨rfl, hw⟩
    · exact fun w9 hw => gn rfl ⟨rfl, hw⟩
    · exact fun w9 hw => gn rfl ⟨rfl, hw⟩
    · exact fun w9 hw => gn rfl ⟨rfl, hw⟩
    · exact fun w9 hw => gw rfl (g_pickf _ _ _ _ rfl rfl ⟨rfl, hw⟩)
  simp only [fullL, Act.put, List.setIfInBounds_toArray, List.set_cons_succ, List.set_cons_zero]
  intro w4 hw
  replace b_a := b_a.below hw b_a.lt
  replace b_b := b_b.below hw b_b.lt
  replace b_r := b_r.below hw b_r.lt
  replace hB := hB.trans (hw.mono hB.size)
  clear hw
  go_wp2_with (first
    | ((with_reducible refine at_storeX 4 60 ?_); refine L_store_all 60 _ _ (w2.heap.size) ([.int .i64 (s2), .int .u64 (sl)]) _ 60 rfl rfl b_r (szN 0) (rfl) (one_pair _ _) ?_; clear b_r; intro w5 t_ b_r; replace b_a := t_.blk b_a (by omega); replace b_b := t_.blk b_b (by omega); replace hB := t_.below hB l_r; clear t_))
  (try simp only [Exit.inBlock, Exit.then])
  exact bodyPost_ret (results_blk_tmp rfl _ ([.int .i64 s2, .int .u64 sl]) (.int .i64 0) _ rfl rfl b_r Tryd.underlying60 rfl (szN 0)) rfl ⟨by rw [hN.out], hB⟩

set_option maxRecDepth 10000 in
set_option maxHeartbeats 2000000 in
theorem add_ok_00 (a b : Int) (w : World) (ha : In128 a) (hb : In128 b) (na : ¬ a < 0) (nb : ¬ b < 0) (ho : In128 (a + b)) :
    Calls Tryd.prog 52 #[.agg (nl a).toArray, .agg (nl b).toArray] w fun e w' => e = .returned (.tuple #[.agg (nl (a + b)).toArray, .int .i64 0]) ∧ Below w.heap.size w w' := by
  unfold In128 at ha hb ho
  obtain ⟨ah, hah⟩ : ∃ h, a / 18446744073709551616 = h := ⟨_, rfl⟩
  obtain ⟨al, hal⟩ : ∃ l, a % 18446744073709551616 = l := ⟨_, rfl⟩
  obtain ⟨bh, hbh⟩ : ∃ h, b / 18446744073709551616 = h := ⟨_, rfl⟩
  obtain ⟨bl, hbl⟩ : ∃ l, b % 18446744073709551616 = l := ⟨_, rfl⟩
  obtain ⟨sl, hsl⟩ : ∃ s, (al + bl) % 18446744073709551616 = s := ⟨_, rfl⟩
  obtain ⟨sc, hsc⟩ : ∃ s : Int, ((al + bl) / 18446744073709551616) = s := ⟨_, rfl⟩
  have fx := fun v => f31_any al bl (by omega) (by omega) v
  rw [hsl, hsc] at fx
  have hsc1 : sc = 0 ∨ sc = 1 := by omega
  have hv : al + bl = sc * 18446744073709551616 + sl := by omega
  obtain ⟨s1, hs1⟩ : ∃ s, IntKind.i64.wrap (ah + bh) = s := ⟨_, rfl⟩
  have f1 : IntKind.i64.wrap sc = sc := by rw [IntKind.wrap_i64]; omega
  obtain ⟨s2, hs2⟩ : ∃ s, IntKind.i64.wrap (s1 + sc) = s := ⟨_, rfl⟩
  have hs1' := hs1; have hs2' := hs2
  rw [IntKind.wrap_i64] at hs1' hs2'
  have hns : ¬ s2 < 0 := by omega
  have hN : Hid (Value.agg (nl (a + b)).toArray = .agg #[.int .i64 s2, .int .u64 sl]) := nl_mk _ _ _ (by omega) (by omega) (by omega)
  replace hah : Hid _ := hah
  replace hal : Hid _ := hal
  replace hbh : Hid _ := hbh
  replace hbl : Hid _ := hbl
  clear ho hs1' hs2' hsl hsc hv hsc1 ha hb
  go_enter Tryd.func52, Tryd.ntmps52
  go_wp2_with (first
    | ((with_reducible refine at_boxD 2 60 ?_); refine L_box 60 _ (nl (a)) rfl ?_; intro w1 t_ b_a; have l_a : w.heap.size ≤ w.heap.size := Nat.le_refl _; have hB : Below w.heap.size w w1 := t_.below (Below.refl _ _) (Nat.le_refl _); clear t_)
    | ((with_reducible refine at_boxD 3 60 ?_); refine L_box 60 _ (nl (b)) rfl ?_; intro w2 t_ b_b; have l_b : w.heap.size ≤ w1.heap.size := hB.size; have o_b := b_a.lt; replace b_a := t_.blk b_a (by omega); replace hB := t_.below hB l_b; clear t_)
    | ((with_reducible refine at_allocD 4 60 ?_); refine L_alloc 60 (nl (0)) zeroN ?_; intro w3 t_ b_r; have l_r : w.heap.size ≤ w2.heap.size := hB.size; have o_r := b_b.lt; replace b_a := t_.blk b_a (by omega); replace b_b := t_.blk b_b (by omega); replace hB := t_.below hB l_r; clear t_)
    | ((with_reducible refine at_loadD 11 34 ?_); refine L_cell34 _ (w.heap.size) 1 (nl (a)) 60 (.int .u64 (al)) rfl b_a (nl1 _ _ hal.out) ?_)
    | ((with_reducible refine at_loadD 13 34 ?_); refine L_cell34 _ (w1.heap.size) 1 (nl (b)) 60 (.int .u64 (bl)) rfl b_b (nl1 _ _ hbl.out) ?_)
    | ((with_reducible refine at_loadD 18 2 ?_); refine L_cell2 _ (w.heap.size) 0 (nl (a)) 60 (.int .i64 (ah)) rfl b_a (nl0 _ _ hah.out) ?_)
    | ((with_reducible refine at_loadD 20 2 ?_); refine L_cell2 _ (w1.heap.size) 0 (nl (b)) 60 (.int .i64 (bh)) rfl b_b (nl0 _ _ hbh.out) ?_)
    | ((with_reducible refine stop_region 3 ?_); intro X1 hX1))
  refine hX1.out ?_
  clear hX1
  refine wp_region_fixed (by kernel_rfl) (by kernel_rfl) [.agg (nl (a)).toArray, .bool false, .agg (nl (b)).toArray, .bool false, .bool true, .bool true, .int .i64 (s2), .bool false, .agg (nl (a)).toArray, .bool false, .bool false, .bool false] (by rfl) (fun w9 => Below w3.heap.size w3 w9) (Below.refl _ _).drew ?_ ?_
  · simp only [fullL, Act.put, List.setIfInBounds_toArray, List.set_cons_succ, List.set_cons_zero]
    refine ⟨?_, ?_, ?_, ?_, ?_, ?_, ?_, ?_, ?_, ?_, ?_, ?_, trivial⟩
    · exact fun w9 hw => gw rfl (g_load_all 60 _ (w.heap.size) _ 60 _ rfl (b_a.below hw b_a.lt) Tryd.underlying60 rfl (szN 0) ⟨rfl, hw⟩)
    · exact fun w9 hw => gw rfl (g_call 51 _ _ [.agg (nl (a)).toArray] (kf51 _ _) rfl (mono_val hw (below_pos a (by omega) w9)))
    · exact fun w9 hw => gw rfl (g_load_all 60 _ (w1.heap.size) _ 60 _ rfl (b_b.below hw b_b.lt) Tryd.underlying60 rfl (szN 0) ⟨rfl, hw⟩)
    · exact fun w9 hw => gw rfl (g_call 51 _ _ [.agg (nl (b)).toArray] (kf51 _ _) rfl (mono_val hw (below_pos b (by omega) w9)))
    · exact fun w9 hw => gw rfl (g_beql _ _ _ _ rfl rfl ⟨rfl, hw⟩)
    · exact fun w9 hw => gw rfl (g_move _ _ rfl ⟨rfl, hw⟩)
    · exact fun w9 hw => gw rfl (g_move _ _ rfl ⟨rfl, hw⟩)
    · exact fun w9 hw => gw rfl (g_ilss 2 _ _ .i64 _ _ false rfl rfl (decide_eq_false (by omega)) ⟨rfl, hw⟩)
    · exact fun w9 hw => gw rfl (g_load_all 60 _ (w.heap.size) _ 60 _ rfl (b_a.below hw b_a.lt) Tryd.underlying60 rfl (szN 0) ⟨rfl, hw⟩)
    · exact fun w9 hw => gw rfl (g_call 51 _ _ [.agg (nl (a)).toArray] (kf51 _ _) rfl (mono_val hw (below_pos a (by omega) w9)))
    · exact fun w9 hw => gw rfl (g_bneq _ _ _ _ rfl rfl ⟨rfl, hw⟩)
    · exact fun w9 hw => gw rfl (g_pickt _ _ _ _ rfl rfl ⟨rfl, hw⟩)
  simp only [fullL, Act.put, List.setIfInBounds_toArray, List.set_cons_succ, List.set_cons_zero]
  intro w4 hw
  replace b_a := b_a.below hw b_a.lt
  replace b_b := b_b.below hw b_b.lt
  replace b_r := b_r.below hw b_r.lt
  replace hB := hB.trans (hw.mono hB.size)
  clear hw
  go_wp2_with (first
    | ((with_reducible refine at_storeX 4 60 ?_); refine L_store_all 60 _ _ (w2.heap.size) ([.int .i64 (s2), .int .u64 (sl)]) _ 60 rfl rfl b_r (szN 0) (rfl) (one_pair _ _) ?_; clear b_r; intro w5 t_ b_r; replace b_a := t_.blk b_a (by omega); replace b_b := t_.blk b_b (by omega); replace hB := t_.below hB l_r; clear t_))
  (try simp only [Exit.inBlock, Exit.then])
  exact bodyPost_ret (results_blk_tmp rfl _ ([.int .i64 s2, .int .u64 sl]) (.int .i64 0) _ rfl rfl b_r Tryd.underlying60 rfl (szN 0)) rfl ⟨by rw [hN.out], hB⟩

theorem add_ok (a b : Int) (w : World) (ha : In128 a) (hb : In128 b) (ho : In128 (a + b)) :
    Calls Tryd.prog 52 #[.agg (nl a).toArray, .agg (nl b).toArray] w fun e w' => e = .returned (.tuple #[.agg (nl (a + b)).toArray, .int .i64 0]) ∧ Below w.heap.size w w' := by
  by_cases na : a < 0 <;> by_cases nb : b < 0
  · exact add_ok_11 a b w ha hb na nb ho
  · exact add_ok_10 a b w ha hb na nb ho
  · exact add_ok_01 a b w ha hb na nb ho
  · exact add_ok_00 a b w ha hb na nb ho

set_option maxRecDepth 10000 in
set_option maxHeartbeats 2000000 in
theorem sub_ok_11 (a b : Int) (w : World) (ha : In128 a) (hb : In128 b) (na : a < 0) (nb : b < 0) (ho : In128 (a - b)) :
    Calls Tryd.prog 28 #[.agg (nl a).toArray, .agg (nl b).toArray] w fun e w' => e = .returned (.tuple #[.agg (nl (a - b)).toArray, .int .i64 0]) ∧ Below w.heap.size w w' := by
  unfold In128 at ha hb ho
  obtain ⟨ah, hah⟩ : ∃ h, a / 18446744073709551616 = h := ⟨_, rfl⟩
  obtain ⟨al, hal⟩ : ∃ l, a % 18446744073709551616 = l := ⟨_, rfl⟩
  obtain ⟨bh, hbh⟩ : ∃ h, b / 18446744073709551616 = h := ⟨_, rfl⟩
  obtain ⟨bl, hbl⟩ : ∃ l, b % 18446744073709551616 = l := ⟨_, rfl⟩
  obtain ⟨sl, hsl⟩ : ∃ s, (al - bl) % 18446744073709551616 = s := ⟨_, rfl⟩
  obtain ⟨sc, hsc⟩ : ∃ s : Int, (if al < bl then 1 else 0) = s := ⟨_, rfl⟩
  have fx := fun v => f33_any al bl (by omega) (by omega) (by omega) v
  rw [hsl, hsc] at fx
  have hsc1 : sc = 0 ∨ sc = 1 := by (split at hsc <;> omega)
  have hv : al - bl = sl - sc * 18446744073709551616 := by (split at hsc <;> omega)
  obtain ⟨s1, hs1⟩ : ∃ s, IntKind.i64.wrap (ah - bh) = s := ⟨_, rfl⟩
  have f1 : IntKind.i64.wrap sc = sc := by rw [IntKind.wrap_i64]; omega
  obtain ⟨s2, hs2⟩ : ∃ s, IntKind.i64.wrap (s1 - sc) = s := ⟨_, rfl⟩
  have hs1' := hs1; have hs2' := hs2
  rw [IntKind.wrap_i64] at hs1' hs2'
  have hN : Hid (Value.agg (nl (a - b)).toArray = .agg #[.int .i64 s2, .int .u64 sl]) := nl_mk _ _ _ (by omega) (by omega) (by omega)
  replace hah : Hid _ := hah
  replace hal : Hid _ := hal
  replace hbh : Hid _ := hbh
  replace hbl : Hid _ := hbl
  clear ho hs1' hs2' hsl hsc hv hsc1 ha hb
  go_enter Tryd.func28, Tryd.ntmps28
  go_wp2_with (first
    | ((with_reducible refine at_boxD 2 60 ?_); refine L_box 60 _ (nl (a)) rfl ?_; intro w1 t_ b_a; have l_a : w.heap.size ≤ w.heap.size := Nat.le_refl _; have hB : Below w.heap.size w w1 := t_.below (Below.refl _ _) (Nat.le_refl _); clear t_)
    | ((with_reducible refine at_boxD 3 60 ?_); refine L_box 60 _ (nl (b)) rfl ?_; intro w2 t_ b_b; have l_b : w.heap.size ≤ w1.heap.size := hB.size; have o_b := b_a.lt; replace b_a := t_.blk b_a (by omega); replace hB := t_.below hB l_b; clear t_)
    | ((with_reducible refine at_allocD 4 60 ?_); refine L_alloc 60 (nl (0)) zeroN ?_; intro w3 t_ b_r; have l_r : w.heap.size ≤ w2.heap.size := hB.size; have o_r := b_b.lt; replace b_a := t_.blk b_a (by omega); replace b_b := t_.blk b_b (by omega); replace hB := t_.below hB l_r; clear t_)
    | ((with_reducible refine at_loadD 11 34 ?_); refine L_cell34 _ (w.heap.size) 1 (nl (a)) 60 (.int .u64 (al)) rfl b_a (nl1 _ _ hal.out) ?_)
    | ((with_reducible refine at_loadD 13 34 ?_); refine L_cell34 _ (w1.heap.size) 1 (nl (b)) 60 (.int .u64 (bl)) rfl b_b (nl1 _ _ hbl.out) ?_)
    | ((with_reducible refine at_loadD 18 2 ?_); refine L_cell2 _ (w.heap.size) 0 (nl (a)) 60 (.int .i64 (ah)) rfl b_a (nl0 _ _ hah.out) ?_)
    | ((with_reducible refine at_loadD 20 2 ?_); refine L_cell2 _ (w1.heap.size) 0 (nl (b)) 60 (.int .i64 (bh)) rfl b_b (nl0 _ _ hbh.out) ?_)
    | ((with_reducible refine stop_region 3 ?_); intro X1 hX1))
  refine hX1.out ?_
  clear hX1
  refine wp_region_fixed (by kernel_rfl) (by kernel_rfl) [.agg (nl (a)).toArray, .bool true, .agg (nl (b)).toArray, .bool true, .bool false, .bool false, undef, undef, undef, undef, undef, .bool false] (by rfl) (fun w9 => Below w3.heap.size w3 w9) (Below.refl _ _).drew ?_ ?_
  · simp only [fullL, Act.put, List.setIfInBounds_toArray, List.set_cons_succ, List.set_cons_zero]
    refine ⟨?_, ?_, ?_, ?_, ?_, ?_, ?_, ?_, ?_, ?_, ?_, ?_, trivial⟩
    · exact fun w9 hw => gw rfl (g_load_all 60 _ (w.heap.size) _ 60 _ rfl (b_a.below hw b_a.lt) Tryd.underlying60 rfl (szN 0) ⟨rfl, hw⟩)
    · exact fun w9 hw => gw rfl (g_call 51 _ _ [.agg (nl (a)).toArray] (kf51 _ _) rfl (mono_val hw (below_neg a (by omega) w9)))
    · exact fun w9 hw => gw rfl (g_load_all 60 _ (w1.heap.size) _ 60 _ rfl (b_b.below hw b_b.lt) Tryd.underlying60 rfl (szN 0) ⟨rfl, hw⟩)
    · exact fun w9 hw => gw rfl (g_call 51 _ _ [.agg (nl (b)).toArray] (kf51 _ _) rfl (mono_val hw (below_neg b (by omega) w9)))
    · exact fun w9 hw => gw rfl (g_bneq _ _ _ _ rfl rfl ⟨rfl, hw⟩)
    · exact fun w9 hw => gw rfl (g_move _ _ rfl ⟨rfl, hw⟩)
    · exact fun w9 hw => gn rfl ⟨rfl, hw⟩
    · exact fun w9 hw => gn rfl ⟨rfl, hw⟩
    · exact fun w9 hw => gn rfl ⟨rfl, hw⟩
    · exact fun w9 hw => gn rfl ⟨rfl, hw⟩
    · exact fun w9 hw => gn rfl ⟨rfl, hw⟩
    · exact fun w9 hw => gw rfl (g_pickf _ _ _ _ rfl rfl ⟨rfl, hw⟩)
  simp only [fullL, Act.put, List.setIfInBounds_toArray, List.set_cons_succ, List.set_cons_zero]
  intro w4 hw
  replace b_a := b_a.below hw b_a.lt
  replace b_b := b_b.below hw b_b.lt
  replace b_r := b_r.below hw b_r.lt
  replace hB := hB.trans (hw.mono hB.size)
  clear hw
  go_wp2_with (first
    | ((with_reducible refine at_storeX 4 60 ?_); refine L_store_all 60 _ _ (w2.heap.size) ([.int .i64 (s2), .int .u64 (sl)]) _ 60 rfl rfl b_r (szN 0) (rfl) (one_pair _ _) ?_; clear b_r; intro w5 t_ b_r; replace b_a := t_.blk b_a (by omega); replace b_b := t_.blk b_b (by omega); replace hB := t_.below hB l_r; clear t_))
  (try simp only [Exit.inBlock, Exit.then])
  exact bodyPost_ret (results_blk_tmp rfl _ ([.int .i64 s2, .int .u64 sl]) (.int .i64 0) _ rfl rfl b_r Tryd.underlying60 rfl (szN 0)) rfl ⟨by rw [hN.out], hB⟩

set_option maxRecDepth 10000 in
set_option maxHeartbeats 2000000 in
theorem sub_ok_10 (a b : Int) (w : World) (ha : In128 a) (hb : In128 b) (na : a < 0) (nb : ¬ b < 0) (ho : In128 (a - b)) :
    Calls Tryd.prog 28 #[.agg (nl a).toArray, .agg (nl b).toArray] w fun e w' => e = .returned (.tuple #[.agg (nl (a - b)).toArray, .int .i64 0]) ∧ Below w.heap.size w w' := by
  unfold In128 at ha hb ho
  obtain ⟨ah, hah⟩ : ∃ h, a / 18446744073709551616 = h := ⟨_, rfl⟩
  obtain ⟨al, hal⟩ : ∃ l, a % 18446744073709551616 = l := ⟨_, rfl⟩
  obtain ⟨bh, hbh⟩ : ∃ h, b / 18446744073709551616 = h := ⟨_, rfl⟩
  obtain ⟨bl, hbl⟩ : ∃ l, b % 18446744073709551616 = l := ⟨_, rfl⟩
  obtain ⟨sl, hsl⟩ : ∃ s, (al - bl) % 18446744073709551616 = s := ⟨_, rfl⟩
  obtain ⟨sc, hsc⟩ : ∃ s : Int, (if al < bl then 1 else 0) = s := ⟨_, rfl⟩
  have fx := fun v => f33_any al bl (by omega) (by omega) (by omega) v
  rw [hsl, hsc] at fx
  have hsc1 : sc = 0 ∨ sc = 1 := by (split at hsc <;> omega)
  have hv : al - bl = sl - sc * 18446744073709551616 := by (split at hsc <;> omega)
  obtain ⟨s1, hs1⟩ : ∃ s, IntKind.i64.wrap (ah - bh) = s := ⟨_, rfl⟩
  have f1 : IntKind.i64.wrap sc = sc := by rw [IntKind.wrap_i64]; omega
  obtain ⟨s2, hs2⟩ : ∃ s, IntKind.i64.wrap (s1 - sc) = s := ⟨_, rfl⟩
  have hs1' := hs1; have hs2' := hs2
  rw [IntKind.wrap_i64] at hs1' hs2'
  have hns : s2 < 0 := by omega
  have hN : Hid (Value.agg (nl (a - b)).toArray = .agg #[.int .i64 s2, .int .u64 sl]) := nl_mk _ _ _ (by omega) (by omega) (by omega)
  replace hah : Hid _ := hah
  replace hal : Hid _ := hal
  replace hbh : Hid _ := hbh
  replace hbl : Hid _ := hbl
  clear ho hs1' hs2' hsl hsc hv hsc1 ha hb
  go_enter Tryd.func28, Tryd.ntmps28
  go_wp2_with (first
    | ((with_reducible refine at_boxD 2 60 ?_); refine L_box 60 _ (nl (a)) rfl ?_; intro w1 t_ b_a; have l_a : w.heap.size ≤ w.heap.size := Nat.le_refl _; have hB : Below w.heap.size w w1 := t_.below (Below.refl _ _) (Nat.le_refl _); clear t_)
    | ((with_reducible refine at_boxD 3 60 ?_); refine L_box 60 _ (nl (b)) rfl ?_; intro w2 t_ b_b; have l_b : w.heap.size ≤ w1.heap.size := hB.size; have o_b := b_a.lt; replace b_a := t_.blk b_a (by omega); replace hB := t_.below hB l_b; clear t_)
    | ((with_reducible refine at_allocD 4 60 ?_); refine L_alloc 60 (nl (0)) zeroN ?_; intro w3 t_ b_r; have l_r : w.heap.size ≤ w2.heap.size := hB.size; have o_r := b_b.lt; replace b_a := t_.blk b_a (by omega); replace b_b := t_.blk b_b (by omega); replace hB := t_.below hB l_r; clear t_)
    | ((with_reducible refine at_loadD 11 34 ?_); refine L_cell34 _ (w.heap.size) 1 (nl (a)) 60 (.int .u64 (al)) rfl b_a (nl1 _ _ hal.out) ?_)
    | ((with_reducible refine at_loadD 13 34 ?_); refine L_cell34 _ (w1.heap.size) 1 (nl (b)) 60 (.int .u64 (bl)) rfl b_b (nl1 _ _ hbl.out) ?_)
    | ((with_reducible refine at_loadD 18 2 ?_); refine L_cell2 _ (w.heap.size) 0 (nl (a)) 60 (.int .i64 (ah)) rfl b_a (nl0 _ _ hah.out) ?_)
    | ((with_reducible refine at_loadD 20 2 ?_); refine L_cell2 _ (w1.heap.size) 0 (nl (b)) 60 (.int .i64 (bh)) rfl b_b (nl0 _ _ hbh.out) ?_)
    | ((with_reducible refine stop_region 3 ?_); intro X1 hX1))
  refine hX1.out ?_
  clear hX1
  refine wp_region_fixed (by kernel_rfl) (by kernel_rfl) [.agg (nl (a)).toArray, .bool true, .agg (nl (b)).toArray, .bool false, .bool true, .bool true, .int .i64 (s2), .bool true, .agg (nl (a)).toArray, .bool true, .bool false, .bool false] (by rfl) (fun w9 => Below w3.heap.size w3 w9) (Below.refl _ _).drew ?_ ?_
  · simp only [fullL, Act.put, List.setIfInBounds_toArray, List.set_cons_succ, List.set_cons_zero]
    refine ⟨?_, ?_, ?_, ?_, ?_, ?_, ?_, ?_, ?_, ?_, ?_, ?_, trivial⟩
    · exact fun w9 hw => gw rfl (g_load_all 60 _ (w.heap.size) _ 60 _ rfl (b_a.below hw b_a.lt) Tryd.underlying60 rfl (szN 0) ⟨rfl, hw⟩)
    · exact fun w9 hw => gw rfl (g_call 51 _ _ [.agg (nl (a)).toArray] (kf51 _ _) rfl (mono_val hw (below_neg a (by omega) w9)))
    · exact fun w9 hw => gw rfl (g_load_all 60 _ (w1.heap.size) _ 60 _ rfl (b_b.below hw b_b.lt) Tryd.underlying60 rfl (szN 0) ⟨rfl, hw⟩)
    · exact fun w9 hw => gw rfl (g_call 51 _ _ [.agg (nl (b)).toArray] (kf51 _ _) rfl (mono_val hw (below_pos b (by omega) w9)))
    · exact fun w9 hw => gw rfl (g_bneq _ _ _ _ rfl rfl ⟨rfl, hw⟩)
    · exact fun w9 hw => gw rfl (g_move _ _ rfl ⟨rfl, hw⟩)
    · exact fun w9 hw => gw rfl (g_move _ _ rfl ⟨rfl, hw⟩)
    · exact fun w9 hw => gw rfl (g_ilss 2 _ _ .i64 _ _ true rfl rfl (decide_eq_true (by omega)) ⟨rfl, hw⟩)
    · exact fun w9 hw => gw rfl (g_load_all 60 _ (w.heap.size) _ 60 _ rfl (b_a.below hw b_a.lt) Tryd.underlying60 rfl (szN 0) ⟨rfl, hw⟩)
    · exact fun w9 hw => gw rfl (g_call 51 _ _ [.agg (nl (a)).toArray] (kf51 _ _) rfl (mono_val hw (below_neg a (by omega) w9)))
    · exact fun w9 hw => gw rfl (g_bneq _ _ _ _ rfl rfl ⟨rfl, hw⟩)
    · exact fun w9 hw => gw rfl (g_pickt _ _ _ _ rfl rfl ⟨rfl, hw⟩)
  simp only [fullL, Act.put, List.setIfInBounds_toArray, List.set_cons_succ, List.set_cons_zero]
  intro w4 hw
  replace b_a := b_a.below hw b_a.lt
  replace b_b := b_b.below hw b_b.lt
  replace b_r := b_r.below hw b_r.lt
  replace hB := hB.trans (hw.mono hB.size)
  clear hw
  go_wp2_with (first
    | ((with_reducible refine at_storeX 4 60 ?_); refine L_store_all 60 _ _ (w2.heap.size) ([.int .i64 (s2), .int .u64 (sl)]) _ 60 rfl rfl b_r (szN 0) (rfl) (one_pair _ _) ?_; clear b_r; intro w5 t_ b_r; replace b_a := t_.blk b_a (by omega); replace b_b := t_.blk b_b (by omega); replace hB := t_.below hB l_r; clear t_))
  (try simp only [Exit.inBlock, Exit.then])
  exact bodyPost_ret (results_blk_tmp rfl _ ([.int .i64 s2, .int .u64 sl]) (.int .i64 0) _ rfl rfl b_r Tryd.underlying60 rfl (szN 0)) rfl ⟨by rw [hN.out], hB⟩

set_option maxRecDepth 10000 in
set_option maxHeartbeats 2000000 in
theorem sub_ok_01 (a b : Int) (w : World) (ha : In128 a) (hb : In128 b) (na : ¬ a < 0) (nb : b < 0) (ho : In128 (a - b)) :
    Calls Tryd.prog 28 #[.agg (nl a).toArray, .agg (nl b).toArray] w fun e w' => e = .returned (.tuple #[.agg (nl (a - b)).toArray, .int .i64 0]) ∧ Below w.heap.size w w' := by
  unfold In128 at ha hb ho
  obtain ⟨ah, hah⟩ : ∃ h, a / 18446744073709551616 = h := ⟨_, rfl⟩
  obtain ⟨al, hal⟩ : ∃ l, a % 18446744073709551616 = l := ⟨_, rfl⟩
  obtain ⟨bh, hbh⟩ : ∃ h, b / 18446744073709551616 = h := ⟨_, rfl⟩
  obtain ⟨bl, hbl⟩ : ∃ l, b % 18446744073709551616 = l := ⟨_, rfl⟩
  obtain ⟨sl, hsl⟩ : ∃ s, (al - bl) % 18446744073709551616 = s := ⟨_, rfl⟩
  obtain ⟨sc, hsc⟩ : ∃ s : Int, (if al < bl then 1 else 0) = s := ⟨_, rfl⟩
  have fx := fun v => f33_any al bl (by omega) (by omega) (by omega) v
  rw [hsl, hsc] at fx
  have hsc1 : sc = 0 ∨ sc = 1 := by (split at hsc <;> omega)
  have hv : al - bl = sl - sc * 18446744073709551616 := by (split at hsc <;> omega)
  obtain ⟨s1, hs1⟩ : ∃ s, IntKind.i64.wrap (ah - bh) = s := ⟨_, rfl⟩
  have f1 : IntKind.i64.wrap sc = sc := by rw [IntKind.wrap_i64]; omega
  obtain ⟨s2, hs2⟩ : ∃ s, IntKind.i64.wrap (s1 - sc) = s := ⟨_, rfl⟩
  have hs1' := hs1; have hs2' := hs2
  rw [IntKind.wrap_i64] at hs1' hs2'
  have hns : ¬ s2 < 0 := by omega
  have hN : Hid (Value.agg (nl (a - b)).toArray = .agg #[.int .i64 s2, .int .u64 sl]) := nl_mk _ _ _ (by omega) (by omega) (by omega)
  replace hah : Hid _ := hah
  replace hal : Hid _ := hal
  replace hbh : Hid _ := hbh
  replace hbl : Hid _ := hbl
  clear ho hs1' hs2' hsl hsc hv hsc1 ha hb
  go_enter Tryd.func28, Tryd.ntmps28
  go_wp2_with (first
    | ((with_reducible refine at_boxD 2 60 ?_); refine L_box 60 _ (nl (a)) rfl ?_; intro w1 t_ b_a; have l_a : w.heap.size ≤ w.heap.size := Nat.le_refl _; have hB : Below w.heap.size w w1 := t_.below (Below.refl _ _) (Nat.le_refl _); clear t_)
    | ((with_reducible refine at_boxD 3 60 ?_); refine L_box 60 _ (nl (b)) rfl ?_; intro w2 t_ b_b; have l_b : w.heap.size ≤ w1.heap.size := hB.size; have o_b := b_a.lt; replace b_a := t_.blk b_a (by omega); replace hB := t_.below hB l_b; clear t_)
    | ((with_reducible refine at_allocD 4 60 ?_); refine L_alloc 60 (nl (0)) zeroN ?_; intro w3 t_ b_r; have l_r : w.heap.size ≤ w2.heap.size := hB.size; have o_r := b_b.lt; replace b_a := t_.blk b_a (by omega); replace b_b := t_.blk b_b (by omega); replace hB := t_.below hB l_r; clear t_)
    | ((with_reducible refine at_loadD 11 34 ?_); refine L_cell34 _ (w.heap.size) 1 (nl (a)) 60 (.int .u64 (al)) rfl b_a (nl1 _ _ hal.out) ?_)
    | ((with_reducible refine at_loadD 13 34 ?_); refine L_cell34 _ (w1.heap.size) 1 (nl (b)) 60 (.int .u64 (bl)) rfl b_b (nl1 _ _ hbl.out) ?_)
    | ((with_reducible refine at_loadD 18 2 ?_); refine L_cell2 _ (w.heap.size) 0 (nl (a)) 60 (.int .i64 (ah)) rfl b_a (nl0 _ _ hah.out) ?_)
    | ((with_reducible refine at_loadD 20 2 ?_); refine L_cell2 _ (w1.heap.size) 0 (nl (b)) 60 (.int .i64 (bh)) rfl b_b (nl0 _ _ hbh.out) ?_)
    | ((with_reducible refine stop_region 3 ?_); intro X1 hX1))
  refine hX1.out ?_
  clear hX1
  refine wp_region_fixed (by kernel_rfl) (by kernel_rfl) [.agg (nl (a)).toArray, .bool false, .agg (nl (b)).toArray, .bool true, .bool true, .bool true, .int .i64 (s2), .bool false, .agg (nl (a)).toArray, .bool false, .bool false, .bool false] (by rfl) (fun w9 => Below w3.heap.size w3 w9) (Below.refl _ _).drew ?_ ?_
  · simp only [fullL, Act.put, List.setIfInBounds_toArray, List.set_cons_succ, List.set_cons_zero]
    refine ⟨?_, ?_, ?_, ?_, ?_, ?_, ?_, ?_, ?_, ?_, ?_, ?_, trivial⟩
    · exact fun w9 hw => gw rfl (g_load_all 60 _ (w.heap.size) _ 60 _ rfl (b_a.below hw b_a.lt) Tryd.underlying60 rfl (szN 0) ⟨rfl, hw⟩)
    · exact fun w9 hw => gw rfl (g_call 51 _ _ [.agg (nl (a)).toArray] (kf51 _ _) rfl (mono_val hw (below_pos a (by omega) w9)))
    · exact fun w9 hw => gw rfl (g_load_all 60 _ (w1.heap.size) _ 60 _ rfl (b_b.below hw b_b.lt) Tryd.underlying60 rfl (szN 0) ⟨rfl, hw⟩)
    · exact fun w9 hw => gw rfl (g_call 51 _ _ [.agg (nl (b)).toArray] (kf51 _ _) rfl (mono_val hw (below_neg b (by omega) w9)))
    · exact fun w9 hw => gw rfl (g_bneq _ _ _ _ rfl rfl ⟨rfl, hw⟩)
    · exact fun w9 hw => gw rfl (g_move _ _ rfl ⟨rfl, hw⟩)
    · exact fun w9 hw => gw rfl (g_move _ _ rfl ⟨rfl, hw⟩)
    · exact fun w9 hw => gw rfl (g_ilss 2 _ _ .i64 _ _ false rfl rfl (decide_eq_false (by omega)) ⟨rfl, hw⟩)
    · exact fun w9 hw => gw rfl (g_load_all 60 _ (w.heap.size) _ 60 _ rfl (b_a.below hw b_a.lt) Tryd.underlying60 rfl (szN 0) ⟨rfl, hw⟩)
    · exact fun w9 hw => gw rfl (g_call 51 _ _ [.agg (nl (a)).toArray] (kf51 _ _) rfl (mono_val hw (below_pos a (by omega) w9)))
    · exact fun w9 hw => gw rfl (g_bneq _ _ _ _ rfl rfl ⟨rfl, hw⟩)
    · exact fun w9 hw => gw rfl (g_pickt _ _ _ _ rfl rfl ⟨rfl, hw⟩)
  simp only [fullL, Act.put, List.setIfInBounds_toArray, List.set_cons_succ, List.set_cons_zero]
  intro w4 hw
  replace b_a := b_a.below hw b_a.lt
  replace b_b := b_b.below hw b_b.lt
  replace b_r := b_r.below hw b_r.lt
  replace hB := hB.trans (hw.mono hB.size)
  clear hw
  go_wp2_with (first
    | ((with_reducible refine at_storeX 4 60 ?_); refine L_store_all 60 _ _ (w2.heap.size) ([.int .i64 (s2), .int .u64 (sl)]) _ 60 rfl rfl b_r (szN 0) (rfl) (one_pair _ _) ?_; clear b_r; intro w5 t_ b_r; replace b_a := t_.blk b_a (by omega); replace b_b := t_.blk b_b (by omega); replace hB := t_.below hB l_r; clear t_))
  (try simp only [Exit.inBlock, Exit.then])
  exact bodyPost_ret (results_blk_tmp rfl _ ([.int .i64 s2, .int .u64 sl]) (.int .i64 0) _ rfl rfl b_r Tryd.underlying60 rfl (szN 0)) rfl ⟨by rw [hN.out], hB⟩

set_option maxRecDepth 10000 in
set_option maxHeartbeats 2000000 in
theorem sub_ok_00 (a b : Int) (w : World) (ha : In128 a) (hb : In128 b) (na : ¬ a < 0) (nb : ¬ b < 0) (ho : In128 (a - b)) :
    Calls Tryd.prog 28 #[.agg (nl a).toArray, .agg (nl b).toArray] w fun e w' => e = .returned (.tuple #[.agg (nl (a - b)).toArray, .int .i64 0]) ∧ Below w.heap.size w w' := by
  unfold In128 at ha hb ho
  obtain ⟨ah, hah⟩ : ∃ h, a / 18446744073709551616 = h := ⟨_, rfl⟩
  obtain ⟨al, hal⟩ : ∃ l, a % 18446744073709551616 = l := ⟨_, rfl⟩
  obtain ⟨bh, hbh⟩ : ∃ h, b / 18446744073709551616 = h := ⟨_, rfl⟩
  obtain ⟨bl, hbl⟩ : ∃ l, b % 18446744073709551616 = l := ⟨_, rfl⟩
  obtain ⟨sl, hsl⟩ : ∃ s, (al - bl) % 18446744073709551616 = s := ⟨_, rfl⟩
  obtain ⟨sc, hsc⟩ : ∃ s : Int, (if al < bl then 1 else 0) = s := ⟨_, rfl⟩
  have fx := fun v => f33_any al bl (by omega) (by omega) (by omega) v
  rw [hsl, hsc] at fx
  have hsc1 : sc = 0 ∨ sc = 1 := by (split at hsc <;> omega)
  have hv : al - bl = sl - sc * 18446744073709551616 := by (split at hsc <;> omega)
  obtain ⟨s1, hs1⟩ : ∃ s, IntKind.i64.wrap (ah - bh) = s := ⟨_, rfl⟩
  have f1 : IntKind.i64.wrap sc = sc := by rw [IntKind.wrap_i64]; omega
  obtain ⟨s2, hs2⟩ : ∃ s, IntKind.i64.wrap (s1 - sc) = s := ⟨_, rfl⟩
  have hs1' := hs1; have hs2' := hs2
  rw [IntKind.wrap_i64] at hs1' hs2'
  have hN : Hid (Value.agg (nl (a - b)).toArray = .agg #[.int .i64 s2, .int .u64 sl]) := nl_mk _ _ _ (by omega) (by omega) (by omega)
  replace hah : Hid _ := hah
  replace hal : Hid _ := hal
  replace hbh : Hid _ := hbh
  replace hbl : Hid _ := hbl
  clear ho hs1' hs2' hsl hsc hv hsc1 ha hb
  go_enter Tryd.func28, Tryd.ntmps28
  go_wp2_with (first
    | ((with_reducible refine at_boxD 2 60 ?_); refine L_box 60 _ (nl (a)) rfl ?_; intro w1 t_ b_a; have l_a : w.heap.size ≤ w.heap.size := Nat.le_refl _; have hB : Below w.heap.size w w1 := t_.below (Below.refl _ _) (Nat.le_refl _); clear t_)
    | ((with_reducible refine at_boxD 3 60 ?_); refine L_box 60 _ (nl (b)) rfl ?_; intro w2 t_ b_b; have l_b : w.heap.size ≤ w1.heap.size := hB.size; have o_b := b_a.lt; replace b_a := t_.blk b_a (by omega); replace hB := t_.below hB l_b; clear t_)
    | ((with_reducible refine at_allocD 4 60 ?_); refine L_alloc 60 (nl (0)) zeroN ?_; intro w3 t_ b_r; have l_r : w.heap.size ≤ w2.heap.size := hB.size; have o_r := b_b.lt; replace b_a := t_.blk b_a (by omega); replace b_b := t_.blk b_b (by omega); replace hB := t_.below hB l_r; clear t_)
    | ((with_reducible refine at_loadD 11 34 ?_); refine L_cell34 _ (w.heap.size) 1 (nl (a)) 60 (.int .u64 (al)) rfl b_a (nl1 _ _ hal.out) ?_)
    | ((with_reducible refine at_loadD 13 34 ?_); refine L_cell34 _ (w1.heap.size) 1 (nl (b)) 60 (.int .u64 (bl)) rfl b_b (nl1 _ _ hbl.out) ?_)
    | ((with_reducible refine at_loadD 18 2 ?_); refine L_cell2 _ (w.heap.size) 0 (nl (a)) 60 (.int .i64 (ah)) rfl b_a (nl0 _ _ hah.out) ?_)
    | ((with_reducible refine at_loadD 20 2 ?_); refine L_cell2 _ (w1.heap.size) 0 (nl (b)) 60 (.int .i64 (bh)) rfl b_b (nl0 _ _ hbh.out) ?_)
    | ((with_reducible refine stop_region 3 ?_); intro X1 hX1))
  refine hX1.out ?_
  clear hX1
  refine wp_region_fixed (by kernel_rfl) (by kernel_rfl) [.agg (nl (a)).toArray, .bool false, .agg (nl (b)).toArray, .bool false, .bool false, .bool false, undef, undef, undef, undef, undef, .bool false] (by rfl) (fun w9 => Below w3.heap.size w3 w9) (Below.refl _ _).drew ?_ ?_
  · simp only [fullL, Act.put, List.setIfInBounds_toArray, List.set_cons_succ, List.set_cons_zero]
    refine ⟨?_, ?_, ?_, ?_, ?_, ?_, ?_, ?_, ?_, ?_, ?_, ?_, trivial⟩
    · exact fun w9 hw => gw rfl (g_load_all 60 _ (w.heap.size) _ 60 _ rfl (b_a.below hw b_a.lt) Tryd.underlying60 rfl (szN 0) ⟨rfl, hw⟩)
    · exact fun w9 hw => gw rfl (g_call 51 _ _ [.agg (nl (a)).toArray] (kf51 _ _) rfl (mono_val hw (below_pos a (by omega) w9)))
    · exact fun w9 hw => gw rfl (g_load_all 60 _ (w1.heap.size) _ 60 _ rfl (b_b.below hw b_b.lt) Tryd.underlying60 rfl (szN 0) ⟨rfl, hw⟩)
    · exact fun w9 hw => gw rfl (g_call 51 _ _ [.agg (nl (b)).toArray] (kf51 _ _) rfl (mono_val hw (below_pos b (by omega) w9)))
    · exact fun w9 hw => gw rfl (g_bneq _ _ _ _ rfl rfl ⟨rfl, hw⟩)
    · exact fun w9 hw => gw rfl (g_move _ _ rfl ⟨rfl, hw⟩)
    · exact fun w9 hw => gn rfl ⟨rfl, hw⟩
    · exact fun w9 hw => gn rfl ⟨rfl, hw⟩
    · exact fun w9 hw => gn rfl ⟨rfl, hw⟩
    · exact fun w9 hw => gn rfl ⟨rfl, hw⟩
    · exact fun w9 hw => gn rfl ⟨rfl, hw⟩
    · exact fun w9 hw => gw rfl (g_pickf _ _ _ _ rfl rfl ⟨rfl, hw⟩)
  simp only [fullL, Act.put, List.setIfInBounds_toArray, List.set_cons_succ, List.set_cons_zero]
  intro w4 hw
  replace b_a := b_a.below hw b_a.lt
  replace b_b := b_b.below hw b_b.lt
  replace b_r := b_r.below hw b_r.lt
  replace hB := hB.trans (hw.mono hB.size)
  clear hw
  go_wp2_with (first
    | ((with_reducible refine at_storeX 4 60 ?_); refine L_store_all 60 _ _ (w2.heap.size) ([.int .i64 (s2), .int .u64 (sl)]) _ 60 rfl rfl b_r (szN 0) (rfl) (one_pair _ _) ?_; clear b_r; intro w5 t_ b_r; replace b_a := t_.blk b_a (by omega); replace b_b := t_.blk b_b (by omega); replace hB := t_.below hB l_r; clear t_))
  (try simp only [Exit.inBlock, Exit.then])
  exact bodyPost_ret (results_blk_tmp rfl _ ([.int .i64 s2, .int .u64 sl]) (.int .i64 0) _ rfl rfl b_r Tryd.underlying60 rfl (szN 0)) rfl ⟨by rw [hN.out], hB⟩

theorem sub_ok (a b : Int) (w : World) (ha : In128 a) (hb : In128 b) (ho : In128 (a - b)) :
    Calls Tryd.prog 28 #[.agg (nl a).toArray, .agg (nl b).toArray] w fun e w' => e = .returned (.tuple #[.agg (nl (a - b)).toArray, .int .i64 0]) ∧ Below w.heap.size w w' := by
  by_cases na : a < 0 <;> by_cases nb : b < 0
  · exact sub_ok_11 a b w ha hb na nb ho
  · exact sub_ok_10 a b w ha hb na nb ho
  · exact sub_ok_01 a b w ha hb na nb ho
  · exact sub_ok_00 a b w ha hb na nb ho

end Go.Proofs.YtpenicjlpiechaaDoor.Wd
namespace Go.Proofs.YtpenicjlpiechaaDoor.Wd
set_option maxRecDepth 10000
open Go Go.RowKit
set_option linter.unusedVariables false
section
variable {a : Act} {w : World} {K : Value → World → Prop} {dst : Option Tmp} {ty : TypeId} {pos : String} {aft : Array Edge} {gd : Option (Nat × Bool)}
theorem g_field0 (x : Operand) (b o : Nat) (hx : a.eval x = .pointer (some ⟨b, o, none⟩)) (hk : K (.pointer (some ⟨b, o, none⟩)) w) : gives Tryd.prog ⟨dst, .fieldAddr 60 x 0, ty, pos, aft, gd⟩ a w K :=
  g_val _ w (by simp only [execOp, hx]; go_simp) hk
theorem g_field1 (x : Operand) (b : Nat) (hx : a.eval x = .pointer (some ⟨b, 0, none⟩)) (hk : K (.pointer (some ⟨b, 1, none⟩)) w) : gives Tryd.prog ⟨dst, .fieldAddr 60 x 1, ty, pos, aft, gd⟩ a w K :=
  g_val _ w (by simp only [execOp, hx]; go_simp) hk
end
end Go.Proofs.YtpenicjlpiechaaDoor.Wd
