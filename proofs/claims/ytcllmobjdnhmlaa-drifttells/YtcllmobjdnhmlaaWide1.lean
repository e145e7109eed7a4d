/- What the program's wide.Of, below and turned answer, and the library's Add64, Sub64 and Mul64, at all numbers of their kinds; nothing that was there is changed. -/
import Derived.Test.YtcllmobjdnhmlaaRows
import Derived.WalkKit
import Derived.WalkSpells
import Derived.WalkLawsBesides
import Derived.Below
import Derived.Laws.Bits64b
import Derived.Laws.Externs
import Derived.Test.YtcllmobjdnhmlaaBlk
import Derived.Test.YtcllmobjdnhmlaaWMath
namespace Go.Proofs.Ytcllmobjdnhmlaa
open Go.RowKit
/-- A wide number as the program's structure. -/
def nl (z : Int) : List Value := [.int .i64 (z / 18446744073709551616), .int .u64 (z % 18446744073709551616)]
theorem nl_eq (z h l : Int) (hh : z / 18446744073709551616 = h) (hl : z % 18446744073709551616 = l) : (Value.agg (nl z).toArray) = .agg #[.int .i64 h, .int .u64 l] := by
  subst hh; subst hl; rfl
theorem nl_mk (z h l : Int) (h0 : 0 ≤ l) (h1 : l < 18446744073709551616) (hz : z = h * 18446744073709551616 + l) : (Value.agg (nl z).toArray) = .agg #[.int .i64 h, .int .u64 l] :=
  nl_eq z h l (by omega) (by omega)
theorem nl_inj {a b : Int} (h : nl a = nl b) : a = b := by
  simp only [nl, List.cons.injEq, Value.int.injEq, true_and, and_true] at h
  omega
/-- Is a number one of 64 bits? -/
def In64 (n : Int) : Prop := -9223372036854775808 ≤ n ∧ n < 9223372036854775808
def In128 (n : Int) : Prop := -170141183460469231731687303715884105728 ≤ n ∧ n < 170141183460469231731687303715884105728
theorem szN (z : Int) : (Try.prog.info? 47).map (·.size) = some (nl z).length := by
  have h : (Try.prog.info? 47).map (·.size) = some 2 := by kernel_rfl
  exact h
theorem one_nl (z : Int) : ∀ v ∈ nl z, v.oneCell' = true := by
  intro v hv
  simp only [nl, List.mem_cons, List.not_mem_nil, or_false] at hv
  rcases hv with rfl | rfl <;> rfl
theorem zeroN : ∀ w, (zeroValue 47).run Try.prog w = .ok (.agg (nl 0).toArray) w := by
  intro w; kernel_rfl
set_option maxHeartbeats 400000 in
theorem below_any (z : Int) (w : World) :
    Calls Try.prog 46 #[.agg (nl z).toArray] w fun e w' => e = .returned (.bool (decide (z < 0))) ∧ Below w.heap.size w w' := by
  obtain ⟨h, hh⟩ : ∃ h, z / 18446744073709551616 = h := ⟨_, rfl⟩
  obtain ⟨l, hl⟩ : ∃ l, z % 18446744073709551616 = l := ⟨_, rfl⟩
  rw [nl_eq z h l hh hl]
  have e : decide (z < 0) = decide (h < 0) := by congr 1; exact propext ⟨fun _ => by omega, fun _ => by omega⟩
  rw [e]; clear e hh hl
  go_enter Try.func46, Try.ntmps46
  go_wp2
  go_ret
  exact ⟨rfl, (Below.refl _ _).alloc (Nat.le_refl _) _⟩
set_option maxHeartbeats 400000 in
theorem of_any (n : Int) (w : World) (hn : In64 n) :
    Calls Try.prog 21 #[.int .i64 n] w fun e w' => e = .returned (.agg (nl n).toArray) ∧ Below w.heap.size w w' := by
  unfold In64 at hn
  rw [nl_eq n (n / 9223372036854775808) (IntKind.u64.wrap n) (by omega) (by rw [IntKind.wrap_u64])]
  clear hn
  go_enter Try.func21, Try.ntmps21
  go_wp2
  exact bodyPost_ret (results_blk rfl w.heap.size [.int .i64 (n / 9223372036854775808), .int .u64 (IntKind.u64.wrap n)] _ rfl (turn_alloc w _ 47).2 Try.underlying47 rfl rfl) rfl ⟨rfl, (Below.refl _ _).alloc (Nat.le_refl _) _⟩
set_option maxHeartbeats 400000 in
theorem turned_any (z : Int) (w : World) (hz : In128 z) :
    Calls Try.prog 52 #[.agg (nl z).toArray] w fun e w' => e = .returned (.agg (nl (-1 - z)).toArray) ∧ Below w.heap.size w w' := by
  unfold In128 at hz
  obtain ⟨h, hh⟩ : ∃ h, z / 18446744073709551616 = h := ⟨_, rfl⟩
  obtain ⟨l, hl⟩ : ∃ l, z % 18446744073709551616 = l := ⟨_, rfl⟩
  rw [nl_eq z h l hh hl]
  have n1 := not_i64 h (by omega) (by omega)
  have n2 := not_u64 l (by omega) (by omega)
  rw [nl_eq (-1 - z) (bits .xor .i64 (-1) h) (bits .xor .u64 IntKind.u64.max l) (by rw [n1]; omega) (by rw [n2]; omega)]
  clear n1 n2 hh hl hz
  have s1 : IntKind.i64.signed = true := rfl
  have s2 : IntKind.u64.signed = false := rfl
  go_enter Try.func52, Try.ntmps52
  go_wp2
  exact bodyPost_ret (results_blk rfl (w.heap.size + 1) [.int .i64 (bits .xor .i64 (-1) h), .int .u64 (bits .xor .u64 IntKind.u64.max l)] _ rfl (by simpa using (turn_alloc (w.alloc (.cells #[.int .i64 h, .int .u64 l] 47)) _ 47).2) Try.underlying47 rfl rfl) rfl ⟨rfl, ((Below.refl _ _).alloc (Nat.le_refl _) _).alloc (by simp) _⟩
/-- The library's Add64 and Sub64, which the model stands in for. -/
theorem f31_any (x y : Int) (hx : 0 ≤ x) (hy : 0 ≤ y) (w : World) : (callFunc 45 #[.int .u64 x, .int .u64 y, .int .u64 0]).run Try.prog w =
    .ok (.value (.tuple #[.int .u64 ((x + y) % 18446744073709551616), .int .u64 ((x + y) / 18446744073709551616)])) w := by
  rw [run_callFunc_extern Try.func45 (by kernel_rfl) (by kernel_rfl) (by kernel_rfl) (e := add64Entry) (by kernel_rfl), run_add64 x y 0 hx hy (by omega) (by omega)]
  simp only [Result.andThen, Int.add_zero]
/-- The model's own entry for Sub64, by its place in the model's table. -/
def subEntry : Array Value → Sem Value := (Extern.MathBitsCarry.rows.getD 1 ("", fun _ => pure (.tuple #[]))).2
theorem run_sub (x y : Nat) (w : World) :
    (subEntry #[.int .u64 x, .int .u64 y, .int .u64 0]).run Try.prog w =
      .ok (.tuple #[.int .u64 (((x + 18446744073709551616 - y) % 18446744073709551616 : Nat) : Int), .int .u64 ((if x < y then 1 else 0 : Nat) : Int)]) w := rfl
theorem f33_any (x y : Int) (hx : 0 ≤ x) (hy : 0 ≤ y) (hy2 : y < 18446744073709551616) (w : World) : (callFunc 49 #[.int .u64 x, .int .u64 y, .int .u64 0]).run Try.prog w =
    .ok (.value (.tuple #[.int .u64 ((x - y) % 18446744073709551616), .int .u64 (if x < y then 1 else 0)])) w := by
  obtain ⟨X, rfl⟩ := Int.eq_ofNat_of_zero_le hx
  obtain ⟨Y, rfl⟩ := Int.eq_ofNat_of_zero_le hy
  rw [run_callFunc_extern Try.func49 (by kernel_rfl) (by kernel_rfl) (by kernel_rfl) (e := subEntry) (by kernel_rfl), run_sub X Y]
  have e1 : (((X + 18446744073709551616 - Y) % 18446744073709551616 : Nat) : Int) = ((X : Int) - Y) % 18446744073709551616 := by omega
  have e2 : ((if X < Y then 1 else 0 : Nat) : Int) = if (X : Int) < Y then 1 else 0 := by split <;> split <;> omega
  rw [e1, e2]
  rfl
/-- Which of two is greater. -/
def cmpI (a b : Int) : Int := if a < b then -1 else if b < a then 1 else 0
set_option maxHeartbeats 400000 in
set_option maxHeartbeats 400000 in
theorem low32 (n r : Nat) (hn : n < 18446744073709551616) (hr : n % 4294967296 = r) : bits .and .u64 (n : Int) 4294967295 = (r : Int) := by
  have h := bits_and_u64_nat n (2 ^ 32 - 1) hn (by decide)
  rw [Nat.and_two_pow_sub_one_eq_mod n 32, show n % 2 ^ 32 = r from hr] at h
  exact h
theorem wrap_eq (z : Int) (n : Nat) (h : z = (n : Int)) (hn : n < 18446744073709551616) : IntKind.u64.wrap z = (n : Int) := by
  rw [IntKind.wrap_u64]; omega
/-- A product, by the four products of the halves. -/
theorem halves (a1 a0 b1 b0 : Nat) : (a1 * 4294967296 + a0) * (b1 * 4294967296 + b0) = a1 * b1 * 18446744073709551616 + (a1 * b0 + a0 * b1) * 4294967296 + a0 * b0 := by
  have e1 : a1 * 4294967296 * (b1 * 4294967296) = a1 * b1 * 18446744073709551616 := Nat.mul_mul_mul_comm a1 4294967296 b1 4294967296
  have e2 : a1 * 4294967296 * b0 = a1 * b0 * 4294967296 := Nat.mul_right_comm a1 4294967296 b0
  have e3 : a0 * (b1 * 4294967296) = a0 * b1 * 4294967296 := (Nat.mul_assoc a0 b1 4294967296).symm
  rw [Nat.add_mul, Nat.mul_add, Nat.mul_add, e1, e2, e3]
  omega
set_option maxHeartbeats 1000000 in
theorem mul_any (x y : Nat) (hx : x < 18446744073709551616) (hy : y < 18446744073709551616) (w : World) :
    Calls Try.prog 47 #[.int .u64 x, .int .u64 y] w fun e w' => e = .returned (.tuple #[.int .u64 ((x * y / 18446744073709551616 : Nat) : Int), .int .u64 ((x * y % 18446744073709551616 : Nat) : Int)]) ∧ w' = w := by
  obtain ⟨a1, a0, ha, a1l, a0l⟩ : ∃ a1 a0 : Nat, x = a1 * 4294967296 + a0 ∧ a1 ≤ 4294967295 ∧ a0 ≤ 4294967295 := ⟨x / 4294967296, x % 4294967296, by omega, by omega, by omega⟩
  obtain ⟨b1, b0, hb, b1l, b0l⟩ : ∃ b1 b0 : Nat, y = b1 * 4294967296 + b0 ∧ b1 ≤ 4294967295 ∧ b0 ≤ 4294967295 := ⟨y / 4294967296, y % 4294967296, by omega, by omega, by omega⟩
  have hp := halves a1 a0 b1 b0
  rw [← ha, ← hb] at hp
  have m11 := Nat.mul_le_mul a1l b1l
  have m10 := Nat.mul_le_mul a1l b0l
  have m01 := Nat.mul_le_mul a0l b1l
  have m00 := Nat.mul_le_mul a0l b0l
  have c11 := Int.natCast_mul a1 b1
  have c10 := Int.natCast_mul a1 b0
  have c01 := Int.natCast_mul a0 b1
  have c00 := Int.natCast_mul a0 b0
  have cxy := Int.natCast_mul x y
  generalize a1 * b1 = p11 at *
  generalize a1 * b0 = p10 at *
  generalize a0 * b1 = p01 at *
  generalize a0 * b0 = p00 at *
  generalize x * y = p at *
  obtain ⟨t, ht⟩ : ∃ t, p10 + p00 / 4294967296 = t := ⟨_, rfl⟩
  obtain ⟨u, hu⟩ : ∃ u, t % 4294967296 + p01 = u := ⟨_, rfl⟩
  obtain ⟨hi, hhi⟩ : ∃ hi, p / 18446744073709551616 = hi := ⟨_, rfl⟩
  obtain ⟨lo, hlo⟩ : ∃ lo, p % 18446744073709551616 = lo := ⟨_, rfl⟩
  rw [hhi, hlo]
  have e1 := low32 x a0 hx (by omega)
  have e2 := low32 y b0 hy (by omega)
  have e3 : (x : Int) / 4294967296 = a1 := by omega
  have e4 : (y : Int) / 4294967296 = b1 := by omega
  have e5 : IntKind.u64.wrap ((a0 : Int) * b0) = p00 := wrap_eq _ _ c00.symm (by omega)
  have e6 : IntKind.u64.wrap ((a1 : Int) * b0) = p10 := wrap_eq _ _ c10.symm (by omega)
  have e7 : IntKind.u64.wrap ((p10 : Int) + (p00 : Int) / 4294967296) = t := wrap_eq _ _ (by omega) (by omega)
  have e8 := low32 t (t % 4294967296) (by omega) rfl
  have e9 : IntKind.u64.wrap ((a0 : Int) * b1) = p01 := wrap_eq _ _ c01.symm (by omega)
  have e10 : IntKind.u64.wrap ((t % 4294967296 : Nat) + (p01 : Int)) = u := wrap_eq _ _ (by omega) (by omega)
  have e11 : IntKind.u64.wrap ((a1 : Int) * b1) = p11 := wrap_eq _ _ c11.symm (by omega)
  obtain ⟨s, hs⟩ : ∃ s, p11 + t / 4294967296 = s := ⟨_, rfl⟩
  have e12 : IntKind.u64.wrap ((p11 : Int) + (t : Int) / 4294967296) = s := wrap_eq _ _ (by omega) (by omega)
  have e13 : IntKind.u64.wrap ((s : Int) + (u : Int) / 4294967296) = hi := wrap_eq _ _ (by omega) (by omega)
  have e14 : IntKind.u64.wrap ((x : Int) * y) = lo := by rw [← cxy, IntKind.wrap_u64]; omega
  obtain ⟨r, hr⟩ : ∃ r, t % 4294967296 = r := ⟨_, rfl⟩
  rw [hr] at e8 e10
  clear ha hb hp m11 m10 m01 m00 c11 c10 c01 c00 cxy ht hu hhi hlo hs hr a1l a0l b1l b0l
  go_enter Try.func47, Try.ntmps47
  go_wp2
  go_ret2
  exact ⟨rfl, rfl⟩
end Go.Proofs.Ytcllmobjdnhmlaa
