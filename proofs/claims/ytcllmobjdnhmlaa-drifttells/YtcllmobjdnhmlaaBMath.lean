/- Numbers as lists of bits, the lowest first. No program here. -/
import Derived.WalkKit
import Derived.Below
namespace Go.Proofs.Ytcllmobjdnhmlaa
open Go Go.RowKit
def bit (b : Bool) : Nat := if b then 1 else 0
theorem bit_le (b : Bool) : bit b ≤ 1 := by cases b <;> decide
theorem bit_true : bit true = 1 := rfl
theorem bit_false : bit false = 0 := rfl
theorem bit_inj {a b : Bool} (h : bit a = bit b) : a = b := by cases a <;> cases b <;> first | rfl | cases h
/-- How great a list of bits is. -/
def val : List Bool → Nat
  | [] => 0
  | b :: l => bit b + 2 * val l
theorem val_nil : val [] = 0 := rfl
theorem val_cons (b : Bool) (l : List Bool) : val (b :: l) = bit b + 2 * val l := rfl
theorem val_append (l m : List Bool) : val (l ++ m) = val l + 2 ^ l.length * val m := by
  induction l with
  | nil => simp [val]
  | cons b l ih =>
    rw [List.cons_append, val_cons, val_cons, ih, List.length_cons, Nat.pow_succ, Nat.mul_add, Nat.mul_comm (2 ^ l.length) 2, ← Nat.mul_assoc]
    omega
theorem val_snoc (l : List Bool) (b : Bool) : val (l ++ [b]) = val l + 2 ^ l.length * bit b := by
  rw [val_append, val_cons, val_nil, Nat.mul_zero, Nat.add_zero]
theorem val_lt (l : List Bool) : val l < 2 ^ l.length := by
  induction l with
  | nil => decide
  | cons b l ih =>
    have := bit_le b
    rw [val_cons, List.length_cons, Nat.pow_succ]
    omega
theorem val_zeros (n : Nat) : val (List.replicate n false) = 0 := by
  induction n with
  | zero => rfl
  | succ n ih => rw [List.replicate_succ, val_cons, ih]; rfl
theorem val_split (l : List Bool) (k : Nat) (h : k ≤ l.length) : val l = val (l.take k) + 2 ^ k * val (l.drop k) := by
  have e := val_append (l.take k) (l.drop k)
  rw [List.take_append_drop, List.length_take, Nat.min_eq_left h] at e
  exact e
/-- The bit at a place; none behind the end. -/
def atB (l : List Bool) (i : Nat) : Bool := l.getD i false
theorem atB_lt (l : List Bool) (i : Nat) (h : i < l.length) : atB l i = l[i] := by simp [atB, h]
theorem atB_ge (l : List Bool) (i : Nat) (h : l.length ≤ i) : atB l i = false := by simp [atB, h]
theorem val_take_succ (l : List Bool) (i : Nat) : val (l.take (i + 1)) = val (l.take i) + 2 ^ i * bit (atB l i) := by
  by_cases h : i < l.length
  · rw [List.take_succ_eq_append_getElem h, val_snoc, List.length_take, Nat.min_eq_left (by omega), atB_lt l i h]
  · rw [List.take_of_length_le (by omega), List.take_of_length_le (by omega), atB_ge l i (by omega)]
    simp [bit]
theorem val_drop (l : List Bool) (i : Nat) : val (l.drop i) = bit (atB l i) + 2 * val (l.drop (i + 1)) := by
  by_cases h : i < l.length
  · rw [List.drop_eq_getElem_cons h, val_cons, atB_lt l i h]
  · rw [List.drop_eq_nil_of_le (by omega), List.drop_eq_nil_of_le (by omega), atB_ge l i (by omega)]
    rfl
theorem val_take_lt (l : List Bool) (i : Nat) : val (l.take i) < 2 ^ i := by
  have h := val_lt (l.take i)
  refine Nat.lt_of_lt_of_le h (Nat.pow_le_pow_right (by omega) ?_)
  rw [List.length_take]; omega
theorem val_split' (l : List Bool) (k : Nat) : val l = val (l.take k) + 2 ^ k * val (l.drop k) := by
  by_cases h : k ≤ l.length
  · exact val_split l k h
  · rw [List.take_of_length_le (by omega), List.drop_eq_nil_of_le (by omega), val_nil, Nat.mul_zero, Nat.add_zero]
/-- No bits 0 at the end. -/
def Can (l : List Bool) : Prop := l = [] ∨ atB l (l.length - 1) = true
theorem Can.ge {l : List Bool} (h : Can l) (hn : l ≠ []) : 2 ^ (l.length - 1) ≤ val l := by
  have hl : 0 < l.length := List.length_pos_iff.2 hn
  rcases h with h | h
  · exact absurd h hn
  · have e := val_take_succ l (l.length - 1)
    rw [show l.length - 1 + 1 = l.length by omega, List.take_length, h, bit_true] at e
    omega
theorem Can.len {l : List Bool} (h : Can l) (p : Nat) : l.length ≤ p ↔ val l < 2 ^ p := by
  constructor
  · intro hp
    exact Nat.lt_of_lt_of_le (val_lt l) (Nat.pow_le_pow_right (by omega) hp)
  · intro hv
    by_cases hn : l = []
    · subst hn; simp
    · have h1 := h.ge hn
      by_cases hp : l.length ≤ p
      · exact hp
      · have : 2 ^ p ≤ 2 ^ (l.length - 1) := Nat.pow_le_pow_right (by omega) (by omega)
        omega
theorem Can.zero {l : List Bool} (h : Can l) (hv : val l = 0) : l = [] := by
  have := (h.len 0).2 (by rw [hv]; decide)
  exact List.eq_nil_of_length_eq_zero (by omega)
/-- A sign, and how great it is. -/
def iv (s : Bool) (l : List Bool) : Int := if s then -(val l : Int) else (val l : Int)
theorem iv_true (l : List Bool) : iv true l = -(val l : Int) := rfl
theorem iv_false (l : List Bool) : iv false l = (val l : Int) := rfl
/-- The carry's step. -/
theorem sum_step (P c c' : Nat) (a b o : Bool) (va vb vo : Nat) (h : vo + P * c = va + vb) (hc : bit o + 2 * c' = c + bit a + bit b) : vo + P * bit o + 2 * P * c' = (va + P * bit a) + (vb + P * bit b) := by
  have e : P * (bit o + 2 * c') = P * (c + bit a + bit b) := by rw [hc]
  rw [Nat.mul_add, Nat.mul_add, Nat.mul_add, ← Nat.mul_assoc, Nat.mul_comm P 2] at e
  omega
theorem off_step (P c c' : Nat) (a b o : Bool) (va vb vo : Nat) (h : vo + vb = va + P * c) (hc : bit o + c + bit b = bit a + 2 * c') : (vo + P * bit o) + (vb + P * bit b) = (va + P * bit a) + 2 * P * c' := by
  have e : P * (bit o + c + bit b) = P * (bit a + 2 * c') := by rw [hc]
  rw [Nat.mul_add, Nat.mul_add, Nat.mul_add, ← Nat.mul_assoc, Nat.mul_comm P 2] at e
  omega
end Go.Proofs.Ytcllmobjdnhmlaa
