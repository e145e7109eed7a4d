/- What the program's wide.Of, below and turned answer, and the library's Compare, Or, Add64, Sub64 and Mul64; nothing that was there is changed. -/
import Derived.Test.YtkgcnbmnhbmdiaaRows
import Derived.WalkKit
import Derived.WalkSpells
import Derived.WalkLawsBesides
import Derived.Below
import Derived.Lib.Mul64
import Derived.Laws.Bits64b
import Derived.Laws.Externs
import Derived.Test.YtkgcnbmnhbmdiaaBlk
import Derived.Test.YtkgcnbmnhbmdiaaWMath
namespace Go.Proofs.Ytkgcnbmnhbmdiaa
open Go.RowKit
/-- A wide number as the program's structure. -/
def nl (z : Int) : List Value := [.int .i64 (z / 18446744073709551616), .int .u64 (z % 18446744073709551616)]
theorem nl_eq (z h l : Int) (hh : z / 18446744073709551616 = h) (hl : z % 18446744073709551616 = l) : (Value.agg (nl z).toArray) = .agg #[.int .i64 h, .int .u64 l] := by
  subst hh; subst hl; rfl
theorem nl_mk (z h l : Int) (h0 : 0 ≤ l) (h1 : l < 18446744073709551616) (hz : z = h * 18446744073709551616 + l) : (Value.agg (nl z).toArray) = .agg #[.int .i64 h, .int .u64 l] :=
  nl_eq z h l (by omega) (by omega)
theorem nl_inj {a b : Int} (h : nl a = nl b) : a = b := by
  simp only [nl, List.cons.injEq, Value.int.injEq, true_and, and_true] at h
  omega
/-- Is a number one of 64 bits? -/
def In64 (n : Int) : Prop := -9223372036854775808 ≤ n ∧ n < 9223372036854775808
def In128 (n : Int) : Prop := -170141183460469231731687303715884105728 ≤ n ∧ n < 170141183460469231731687303715884105728
theorem sz24 (z : Int) : (Try.prog.info? 24).map (·.size) = some (nl z).length := by
  have h : (Try.prog.info? 24).map (·.size) = some 2 := by kernel_rfl
  exact h
theorem one_nl (z : Int) : ∀ v ∈ nl z, v.oneCell' = true := by
  intro v hv
  simp only [nl, List.mem_cons, List.not_mem_nil, or_false] at hv
  rcases hv with rfl | rfl <;> rfl
theorem zero24 : ∀ w, (zeroValue 24).run Try.prog w = .ok (.agg (nl 0).toArray) w := by
  intro w; kernel_rfl
set_option maxHeartbeats 400000 in
theorem below_any (z : Int) (w : World) :
    Calls Try.prog 32 #[.agg (nl z).toArray] w fun e w' => e = .returned (.bool (decide (z < 0))) ∧ Below w.heap.size w w' := by
  obtain ⟨h, hh⟩ : ∃ h, z / 18446744073709551616 = h := ⟨_, rfl⟩
  obtain ⟨l, hl⟩ : ∃ l, z % 18446744073709551616 = l := ⟨_, rfl⟩
  rw [nl_eq z h l hh hl]
  have e : decide (z < 0) = decide (h < 0) := by congr 1; exact propext ⟨fun _ => by omega, fun _ => by omega⟩
  rw [e]; clear e hh hl
  go_enter Try.func32, Try.ntmps32
  go_wp2
  go_ret
  exact ⟨rfl, (Below.refl _ _).alloc (Nat.le_refl _) _⟩
set_option maxHeartbeats 400000 in
theorem of_any (n : Int) (w : World) (hn : In64 n) :
    Calls Try.prog 17 #[.int .i64 n] w fun e w' => e = .returned (.agg (nl n).toArray) ∧ Below w.heap.size w w' := by
  unfold In64 at hn
  rw [nl_eq n (n / 9223372036854775808) (IntKind.u64.wrap n) (by omega) (by rw [IntKind.wrap_u64])]
  clear hn
  go_enter Try.func17, Try.ntmps17
  go_wp2
  exact bodyPost_ret (results_blk rfl w.heap.size [.int .i64 (n / 9223372036854775808), .int .u64 (IntKind.u64.wrap n)] _ rfl (turn_alloc w _ 24).2 Try.underlying24 rfl rfl) rfl ⟨rfl, (Below.refl _ _).alloc (Nat.le_refl _) _⟩
set_option maxHeartbeats 400000 in
theorem turned_any (z : Int) (w : World) (hz : In128 z) :
    Calls Try.prog 44 #[.agg (nl z).toArray] w fun e w' => e = .returned (.agg (nl (-1 - z)).toArray) ∧ Below w.heap.size w w' := by
  unfold In128 at hz
  obtain ⟨h, hh⟩ : ∃ h, z / 18446744073709551616 = h := ⟨_, rfl⟩
  obtain ⟨l, hl⟩ : ∃ l, z % 18446744073709551616 = l := ⟨_, rfl⟩
  rw [nl_eq z h l hh hl]
  have n1 := not_i64 h (by omega) (by omega)
  have n2 := not_u64 l (by omega) (by omega)
  rw [nl_eq (-1 - z) (bits .xor .i64 (-1) h) (bits .xor .u64 IntKind.u64.max l) (by rw [n1]; omega) (by rw [n2]; omega)]
  clear n1 n2 hh hl hz
  have s1 : IntKind.i64.signed = true := rfl
  have s2 : IntKind.u64.signed = false := rfl
  go_enter Try.func44, Try.ntmps44
  go_wp2
  exact bodyPost_ret (results_blk rfl (w.heap.size + 1) [.int .i64 (bits .xor .i64 (-1) h), .int .u64 (bits .xor .u64 IntKind.u64.max l)] _ rfl (by simpa using (turn_alloc (w.alloc (.cells #[.int .i64 h, .int .u64 l] 24)) _ 24).2) Try.underlying24 rfl rfl) rfl ⟨rfl, ((Below.refl _ _).alloc (Nat.le_refl _) _).alloc (by simp) _⟩
/-- The library's Add64 and Sub64, which the model stands in for. -/
theorem f31_any (x y : Int) (hx : 0 ≤ x) (hy : 0 ≤ y) (w : World) : (callFunc 31 #[.int .u64 x, .int .u64 y, .int .u64 0]).run Try.prog w =
    .ok (.value (.tuple #[.int .u64 ((x + y) % 18446744073709551616), .int .u64 ((x + y) / 18446744073709551616)])) w := by
  rw [run_callFunc_extern Try.func31 (by kernel_rfl) (by kernel_rfl) (by kernel_rfl) (e := add64Entry) (by kernel_rfl), run_add64 x y 0 hx hy (by omega) (by omega)]
  simp only [Result.andThen, Int.add_zero]
def subEntry : Array Value → Sem Value := fun args => do
  let (x, y, b) ← Extern.MathBitsCarry.three "Sub64" args
  pure (Extern.MathBitsCarry.pair ((x + Extern.MathBitsCarry.m64 - y - b) % Extern.MathBitsCarry.m64) (if x < y + b then 1 else 0))
theorem run_sub (x y : Nat) (w : World) :
    (subEntry #[.int .u64 x, .int .u64 y, .int .u64 0]).run Try.prog w =
      .ok (.tuple #[.int .u64 (((x + 18446744073709551616 - y) % 18446744073709551616 : Nat) : Int), .int .u64 ((if x < y then 1 else 0 : Nat) : Int)]) w := rfl
theorem f33_any (x y : Int) (hx : 0 ≤ x) (hy : 0 ≤ y) (hy2 : y < 18446744073709551616) (w : World) : (callFunc 33 #[.int .u64 x, .int .u64 y, .int .u64 0]).run Try.prog w =
    .ok (.value (.tuple #[.int .u64 ((x - y) % 18446744073709551616), .int .u64 (if x < y then 1 else 0)])) w := by
  obtain ⟨X, rfl⟩ := Int.eq_ofNat_of_zero_le hx
  obtain ⟨Y, rfl⟩ := Int.eq_ofNat_of_zero_le hy
  rw [run_callFunc_extern Try.func33 (by kernel_rfl) (by kernel_rfl) (by kernel_rfl) (e := subEntry) (by kernel_rfl), run_sub X Y]
  have e1 : (((X + 18446744073709551616 - Y) % 18446744073709551616 : Nat) : Int) = ((X : Int) - Y) % 18446744073709551616 := by omega
  have e2 : ((if X < Y then 1 else 0 : Nat) : Int) = if (X : Int) < Y then 1 else 0 := by split <;> split <;> omega
  rw [e1, e2]
  rfl
/-- Which of two is greater. -/
def cmpI (a b : Int) : Int := if a < b then -1 else if b < a then 1 else 0
set_option maxHeartbeats 400000 in
theorem comp40_any (x y : Int) (w : World) :
    Calls Try.prog 40 #[.int .i64 x, .int .i64 y] w fun e w' => e = .returned (.int .i64 (cmpI x y)) ∧ w' = w := by
  by_cases h1 : x < y
  · rw [cmpI, if_pos h1]
    go_enter Try.func40, Try.ntmps40
    go_wp2
    go_ret
    exact ⟨rfl, rfl⟩
  · by_cases h2 : y < x
    · rw [cmpI, if_neg h1, if_pos h2]
      go_enter Try.func40, Try.ntmps40
      go_wp2
      go_ret
      exact ⟨rfl, rfl⟩
    · rw [cmpI, if_neg h1, if_neg h2]
      go_enter Try.func40, Try.ntmps40
      go_wp2
      go_ret
      exact ⟨rfl, rfl⟩
set_option maxHeartbeats 400000 in
theorem comp41_any (x y : Int) (w : World) :
    Calls Try.prog 41 #[.int .u64 x, .int .u64 y] w fun e w' => e = .returned (.int .i64 (cmpI x y)) ∧ w' = w := by
  by_cases h1 : x < y
  · rw [cmpI, if_pos h1]
    go_enter Try.func41, Try.ntmps41
    go_wp2
    go_ret
    exact ⟨rfl, rfl⟩
  · by_cases h2 : y < x
    · rw [cmpI, if_neg h1, if_pos h2]
      go_enter Try.func41, Try.ntmps41
      go_wp2
      go_ret
      exact ⟨rfl, rfl⟩
    · rw [cmpI, if_neg h1, if_neg h2]
      go_enter Try.func41, Try.ntmps41
      go_wp2
      go_ret
      exact ⟨rfl, rfl⟩
theorem maskN (a : Nat) (ha : a < 18446744073709551616) : bits .and .u64 (a : Int) 4294967295 = ((a % 4294967296 : Nat) : Int) := by
  have h := bits_and_u64_nat a 4294967295 ha (by omega)
  have e : a &&& 4294967295 = a % 4294967296 := Nat.and_two_pow_sub_one_eq_mod a 32
  rw [e] at h
  exact h
theorem divN (a : Nat) : (a : Int) / 4294967296 = ((a / 4294967296 : Nat) : Int) := by omega
theorem mulN (a b : Nat) : (a : Int) * (b : Int) = ((a * b : Nat) : Int) := (Int.natCast_mul a b).symm
theorem addN (a b : Nat) : (a : Int) + (b : Int) = ((a + b : Nat) : Int) := (Int.natCast_add a b).symm
theorem wrapN (a : Nat) (ha : a < 18446744073709551616) : IntKind.u64.wrap (a : Int) = (a : Int) := by rw [IntKind.wrap_u64]; omega
theorem wrapM (a : Nat) : IntKind.u64.wrap (a : Int) = ((a % 18446744073709551616 : Nat) : Int) := by rw [IntKind.wrap_u64]; omega
set_option maxHeartbeats 1000000 in
theorem mul_any (x y : Nat) (hx : x < 18446744073709551616) (hy : y < 18446744073709551616) (w : World) :
    Calls Try.prog 42 #[.int .u64 x, .int .u64 y] w fun e w' => e = .returned (.tuple #[.int .u64 ((x * y / 18446744073709551616 : Nat) : Int), .int .u64 ((x * y % 18446744073709551616 : Nat) : Int)]) ∧ w' = w := by
  obtain ⟨bd, bt, bw, hhi⟩ := Lib.mul64_hi x y hx hy
  have ba := Lib.half_mul_le (a := x / 4294967296) (b := y / 4294967296) (by omega) (by omega)
  have bb := Lib.half_mul_le (a := x / 4294967296) (b := y % 4294967296) (by omega) (by omega)
  have bc := Lib.half_mul_le (a := x % 4294967296) (b := y / 4294967296) (by omega) (by omega)
  have ba' : x / 4294967296 * (y / 4294967296) < 18446744073709551616 := by omega
  have bb' : x / 4294967296 * (y % 4294967296) < 18446744073709551616 := by omega
  have bc' : x % 4294967296 * (y / 4294967296) < 18446744073709551616 := by omega
  have bh1 : x / 4294967296 * (y / 4294967296) + (x / 4294967296 * (y % 4294967296) + x % 4294967296 * (y % 4294967296) / 4294967296) / 4294967296 < 18446744073709551616 := by omega
  have bh : x / 4294967296 * (y / 4294967296) + (x / 4294967296 * (y % 4294967296) + x % 4294967296 * (y % 4294967296) / 4294967296) / 4294967296 + ((x / 4294967296 * (y % 4294967296) + x % 4294967296 * (y % 4294967296) / 4294967296) % 4294967296 + x % 4294967296 * (y / 4294967296)) / 4294967296 < 18446744073709551616 := by omega
  go_enter Try.func42, Try.ntmps42
  go_wp2
  simp only [maskN x hx, maskN y hy, divN, mulN, addN, wrapN _ bd, wrapN _ bb', wrapN _ bt, maskN _ bt, wrapN _ bc', wrapN _ bw, wrapN _ ba', wrapN _ bh1, wrapN _ bh, wrapM (x * y)]
  rw [hhi]
  go_ret2
  exact ⟨rfl, rfl⟩
end Go.Proofs.Ytkgcnbmnhbmdiaa
