/- OctetOrder's walk: the law returns true; nothing that was there has turned. Conditions: none. -/
import Derived.Test.YtnhgmhomkghdaaaNamed
namespace Go.Proofs.Ytnhgmhomkghdaaa
open Go.RowKit
set_option linter.unusedVariables false
namespace octetOrder
theorem num_cons (c : UInt8) (l : List UInt8) : num (c :: l) = c.toNat * 256 ^ l.length + num l := by
  induction l using snoc_ind with
  | h0 => simp [num]
  | h1 l d ih =>
    rw [← List.cons_append, num_snoc, ih, num_snoc, List.length_append, List.length_singleton, Nat.pow_succ, Nat.add_mul, ← Nat.mul_assoc, Nat.add_assoc]
theorem less_num : ∀ (x y : List UInt8), x.length = y.length → Op.bytesLess x y = decide (num x < num y)
  | [], [], _ => by simp [Op.bytesLess, num]
  | a :: x, b :: y, h => by
    have h' : x.length = y.length := by simpa using h
    have ih := less_num x y h'
    have hx := num_lt x
    have hy := num_lt y
    rw [Op.bytesLess, ih, num_cons, num_cons, h'] 
    rw [h'] at hx
    generalize 256 ^ y.length = P at *
    generalize num x = X at *
    generalize num y = Y at *
    rw [Bool.eq_iff_iff]
    simp only [Bool.or_eq_true, Bool.and_eq_true, decide_eq_true_eq, beq_iff_eq, UInt8.lt_iff_toNat_lt, ← UInt8.toNat_inj]
    generalize a.toNat = A
    generalize b.toNat = B
    constructor
    · rintro (h1 | ⟨h1, h2⟩)
      · have : (A + 1) * P ≤ B * P := Nat.mul_le_mul_right P h1
        rw [Nat.add_mul] at this
        omega
      · subst h1; omega
    · intro h1
      by_cases h2 : A < B
      · exact .inl h2
      · right
        by_cases h3 : A = B
        · subst h3; exact ⟨rfl, by omega⟩
        · have : (B + 1) * P ≤ A * P := Nat.mul_le_mul_right P (by omega)
          rw [Nat.add_mul] at this
          omega
theorem less_put (n m : Nat) (hn : n < 18446744073709551616) (hm : m < 18446744073709551616) (S T : ByteArray) (hS : S.data.toList = putL n 8) (hT : T.data.toList = putL m 8) :
    Op.bytesLess S.toList T.toList = decide (n < m) ∧ (S.toList == T.toList) = decide (n = m) := by
  rw [Lib.toList_data, Lib.toList_data, hS, hT]
  have e1 : num (putL n 8) = n := by rw [num_putL, Nat.mod_eq_of_lt hn]
  have e2 : num (putL m 8) = m := by rw [num_putL, Nat.mod_eq_of_lt hm]
  constructor
  · rw [less_num _ _ (by rw [putL_length, putL_length]), e1, e2]
  · rw [Bool.eq_iff_iff]; simp only [beq_iff_eq, decide_eq_true_eq]
    constructor
    · intro h; rw [← e1, ← e2, h]
    · rintro rfl; rfl
set_option maxHeartbeats 1000000 in
theorem walk (a0 : Int) (a1 : Int) (w0 : (Lit.int .u64 a0).wf = true) (w1 : (Lit.int .u64 a1).wf = true) (w : World) :
    Calls Try.prog 10 #[.int .u64 a0, .int .u64 a1] w fun e w' => e = .returned (.bool true) ∧ Below w.heap.size w w' := by
  obtain ⟨n, rfl, hn⟩ := open_u64 a0 w0
  obtain ⟨m, rfl, hm⟩ := open_u64 a1 w1
  have hz := less_put n m hn hm
  have HZ : Hid _ := hz
  clear w0 w1 hn hm hz
  go_enter Try.func10, Try.ntmps10
  go_wp2_with fail
  refine (awake_any _).mono ?_; rintro e w1 ⟨rfl, hb1⟩
  go_wp2_with fail
  refine (put_named n 8 8 _ (.inr (.inl ⟨by decide, by decide, rfl⟩))).mono ?_; rintro e w2 ⟨S, rfl, HS, hb2⟩
  go_wp2_with fail
  refine (put_named m 8 8 _ (.inr (.inl ⟨by decide, by decide, rfl⟩))).mono ?_; rintro e w3 ⟨T, rfl, HT, hb3⟩
  obtain ⟨z1, z2⟩ := HZ.out S T HS.out HT.out
  have hbb := (hb1.trans (hb2.mono hb1.size))
  have hb := hbb.trans (hb3.mono hbb.size)
  clear hb1 hb2 hb3 hbb HS HT HZ
  rcases Nat.lt_trichotomy n m with h | h | h
  · rw [decide_eq_true h] at z1
    rw [decide_eq_false (by omega)] at z2
    have e : ((n : Int) == (m : Int)) = false := by simp; omega
    go_wp2
    go_ret
    exact ⟨rfl, hb⟩
  · rw [decide_eq_false (by omega)] at z1
    rw [decide_eq_true h] at z2
    go_wp2
    go_ret
    exact ⟨rfl, hb⟩
  · rw [decide_eq_false (by omega)] at z1
    rw [decide_eq_false (by omega)] at z2
    have e : ((n : Int) == (m : Int)) = false := by simp; omega
    have e2 : decide (n < m) = false := by simp; omega
    go_wp2
    go_ret
    exact ⟨rfl, hb⟩
end octetOrder
end Go.Proofs.Ytnhgmhomkghdaaa
