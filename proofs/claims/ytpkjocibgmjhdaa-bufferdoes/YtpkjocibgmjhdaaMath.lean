/- Plain facts on numbers, bytes and lists for the proofs of layer 1 (octet): no program. Conditions: as each says. -/
import Derived.Laws.BitsLemmas
import Derived.Laws.BitsAllLaws
import Derived.Below
namespace Go.Proofs.Ytpkjocibgmjhdaa
set_option maxRecDepth 10000
open Go

theorem wraps_u64 (n : Int) (h₀ : 0 ≤ n) (h₁ : n < 2 ^ 64) : IntKind.u64.wrap n = n := by
  simp [IntKind.wrap, IntKind.bits, IntKind.signed]; omega
theorem wraps_u32 (n : Int) (h₀ : 0 ≤ n) (h₁ : n < 2 ^ 32) : IntKind.u32.wrap n = n := by
  rw [IntKind.wrap_u32]; omega
theorem wrap_u64 (n : Int) : IntKind.u64.wrap n = n % 18446744073709551616 := by
  simp [IntKind.wrap, IntKind.bits, IntKind.signed]

theorem and31 (k : Int) : bits .and .u64 (IntKind.u64.wrap k) 31 = k % 32 := by
  have h := bits_mask .u64 64 (by decide) wraps_u64 5 (by decide) (IntKind.u64.wrap k) (by rw [wrap_u64]; omega) (by rw [wrap_u64]; omega)
  rw [show (31 : Int) = 2 ^ 5 - 1 from by decide, h, wrap_u64]; omega

theorem rot_or (N : BitVec 32) (s : Nat) (hs : s < 32) :
    bits .or .u32 (IntKind.u32.wrap (↑N.toNat * 2 ^ s)) (↑N.toNat / 2 ^ (32 - s)) = ((N.rotateLeft s).toNat : Int) := by
  have h1 : IntKind.u32.wrap (↑N.toNat * 2 ^ s) = ((N.toNat <<< s % 2 ^ 32 : Nat) : Int) := by
    rw [IntKind.wrap_u32, Nat.shiftLeft_eq, Int.natCast_emod, Int.natCast_mul, Int.natCast_pow, Int.natCast_pow]
    exact congrArg _ (by decide)
  have h2 : ((N.toNat : Int) / 2 ^ (32 - s)) = ((N.toNat >>> (32 - s) : Nat) : Int) := by
    rw [Nat.shiftRight_eq_div_pow, Int.natCast_ediv, Int.natCast_pow]; rfl
  rw [h1, h2, (bits_nat .u32 32 (by decide) wraps_u32 _ _ (Nat.mod_lt _ (by decide)) (Nat.lt_of_le_of_lt (Nat.shiftRight_le _ _) N.isLt)).2]
  rw [BitVec.toNat_rotateLeft, Nat.mod_eq_of_lt hs]

theorem snoc_ind {α : Type} {p : List α → Prop} (h0 : p []) (h1 : ∀ l c, p l → p (l ++ [c])) (l : List α) : p l := by
  have : ∀ r : List α, p r.reverse := by
    intro r
    induction r with
    | nil => exact h0
    | cons c r ih => rw [List.reverse_cons]; exact h1 _ _ ih
  have h := this l.reverse
  rwa [List.reverse_reverse] at h
/-- The number of bytes, the highest first. -/
def num (l : List UInt8) : Nat := l.foldl (fun a c => a * 256 + c.toNat) 0
theorem num_nil : num [] = 0 := rfl
theorem num_snoc (l : List UInt8) (c : UInt8) : num (l ++ [c]) = num l * 256 + c.toNat := by simp [num]
theorem num_lt (l : List UInt8) : num l < 256 ^ l.length := by
  induction l using snoc_ind with
  | h0 => simp [num]
  | h1 l c ih =>
    rw [num_snoc, List.length_append, List.length_singleton, Nat.pow_succ]
    have := c.toNat_lt
    omega
theorem take_snoc (s : ByteArray) (k : Nat) (h : k < s.size) : s.data.toList.take (k + 1) = s.data.toList.take k ++ [s[k]] := by
  rw [List.take_succ_eq_append_getElem (by simpa using h)]; rfl
theorem or_byte (m : Nat) (c : UInt8) (hm : m < 72057594037927936) :
    bits .or .u64 (IntKind.u64.wrap (↑m * 256)) (IntKind.u64.wrap ↑c.toNat) = ((m * 256 + c.toNat : Nat) : Int) := by
  have hc := c.toNat_lt
  rw [wraps_u64 _ (by omega) (by omega), wraps_u64 _ (by omega) (by omega)]
  rw [bits_join .u64 64 (by decide) wraps_u64 8 _ _ (by omega) (by omega) (by omega) (by omega) (by omega) (by omega)]
  omega
theorem num_take_lt (s : ByteArray) (k : Nat) (h : k < 8) : num (s.data.toList.take k) < 72057594037927936 := by
  have h1 := num_lt (s.data.toList.take k)
  have h2 : (s.data.toList.take k).length ≤ 7 := Nat.le_trans (List.length_take_le _ _) (by omega)
  exact Nat.lt_of_lt_of_le h1 (Nat.pow_le_pow_right (by decide) h2)

/-- The lowest k bytes of n, the highest of these first. -/
def putL (n : Nat) : Nat → List UInt8
  | 0 => []
  | k + 1 => putL (n / 256) k ++ [UInt8.ofNat (n % 256)]
theorem putL_length (n k : Nat) : (putL n k).length = k := by
  induction k generalizing n with
  | zero => rfl
  | succ k ih => simp [putL, ih]
theorem putL_cons (n k : Nat) : putL n (k + 1) = UInt8.ofNat (n / 256 ^ k % 256) :: putL n k := by
  induction k generalizing n with
  | zero => simp [putL]
  | succ k ih =>
    rw [putL, ih, putL, List.cons_append, Nat.pow_succ, Nat.mul_comm, Nat.div_div_eq_div_mul]
theorem num_putL (n k : Nat) : num (putL n k) = n % 256 ^ k := by
  induction k generalizing n with
  | zero => simp [putL, num, Nat.mod_one]
  | succ k ih =>
    rw [putL, num_snoc, ih, Nat.pow_succ, Nat.mul_comm (256 ^ k) 256, Nat.mod_mul]
    simp; omega
theorem putL_num (l : List UInt8) : putL (num l) l.length = l := by
  induction l using snoc_ind with
  | h0 => rfl
  | h1 l c ih =>
    have := c.toNat_lt
    rw [List.length_append, List.length_singleton, num_snoc, putL]
    rw [show (num l * 256 + c.toNat) / 256 = num l from by omega, ih, show (num l * 256 + c.toNat) % 256 = c.toNat from by omega]
    simp
/-- Bytes as the cells of a slice. -/
def bc (l : List UInt8) : List Value := l.map fun b => .int .u8 b.toNat
theorem bc_length (l : List UInt8) : (bc l).length = l.length := by simp [bc]
/-- What Put has laid after k rounds. -/
def rowP (n c k : Nat) : List UInt8 := List.replicate (c - k) 0 ++ putL n k
theorem rowP_length (n c k : Nat) (h : k ≤ c) : (rowP n c k).length = c := by simp [rowP, putL_length]; omega
theorem rowP_zero (n c : Nat) : bc (rowP n c 0) = List.replicate c (.int .u8 0) := by simp [rowP, putL, bc]
theorem rowP_end (n c : Nat) : rowP n c c = putL n c := by simp [rowP]
theorem rowP_step (n c k : Nat) (h : k < c) :
    (bc (rowP n c k)).set (c - 1 - k) (.int .u8 ((n / 256 ^ k % 256 : Nat) : Int)) = bc (rowP n c (k + 1)) := by
  unfold rowP
  rw [putL_cons, show c - k = (c - (k + 1)) + 1 from by omega, List.replicate_succ', List.append_assoc]
  unfold bc
  rw [List.map_append, List.set_append_right _ _ (by simp; omega)]
  rw [List.map_append, List.length_map, List.length_replicate, show c - 1 - k - (c - (k + 1)) = 0 from by omega]
  have : n / 256 ^ k % 256 < 256 := Nat.mod_lt _ (by decide)
  simp
theorem xor_zero (x y : Nat) : x ^^^ y = 0 ↔ x = y := by
  constructor
  · intro h
    have : x ^^^ (x ^^^ y) = x := by rw [h]; simp
    rw [← Nat.xor_assoc, Nat.xor_self, Nat.zero_xor] at this
    exact this.symm
  · rintro rfl; exact Nat.xor_self _
theorem or_xor (u : Nat) (x y : UInt8) (hu : u < 256) :
    ∃ v : Nat, bits .or .u8 (u : Int) (bits .xor .u8 (x.toNat : Int) (y.toNat : Int)) = (v : Int) ∧ v < 256 ∧ (v = 0 ↔ u = 0 ∧ x = y) := by
  have hx := x.toNat_lt
  have hy := y.toNat_lt
  have h1 : x.toNat ^^^ y.toNat < 2 ^ 8 := Nat.xor_lt_two_pow hx hy
  refine ⟨u ||| (x.toNat ^^^ y.toNat), ?_, Nat.or_lt_two_pow (n := 8) hu h1, ?_⟩
  · rw [u8_xor_nat _ _ hx hy, u8_or_nat _ _ hu h1]
  · rw [Nat.or_eq_zero_iff, xor_zero, UInt8.toNat_inj]
theorem same_of_take (a b : ByteArray) (m : Nat) (ha : a.size = m) (hb : b.size = m) (h : a.data.toList.take m = b.data.toList.take m) : a = b := by
  rw [List.take_of_length_le (by simp; omega), List.take_of_length_le (by simp; omega)] at h
  apply ByteArray.ext
  exact Array.toList_inj.1 h
end Go.Proofs.Ytpkjocibgmjhdaa
