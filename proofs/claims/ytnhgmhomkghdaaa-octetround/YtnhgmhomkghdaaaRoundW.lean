/- OctetRound's walk: the law returns true; nothing that was there has turned. Conditions: none. -/
import Derived.Test.YtnhgmhomkghdaaaAwake
import Derived.Laws.BitsAllLaws
import Derived.OpenShut
namespace Go.Proofs.Ytnhgmhomkghdaaa.octetRound
open Go.RowKit
set_option linter.unusedVariables false
theorem rot_rot (N : BitVec 32) (a b c : Nat) (ha : a < 32) (hb : b < 32) (hc : c = (a + b) % 32) : (N.rotateLeft a).rotateLeft b = N.rotateLeft c := by
  apply BitVec.eq_of_getLsbD_eq
  intro i hi
  have hc2 : c < 32 := by omega
  simp only [BitVec.getLsbD_rotateLeft, Nat.mod_eq_of_lt ha, Nat.mod_eq_of_lt hb, Nat.mod_eq_of_lt hc2]
  by_cases h1 : i < b
  · by_cases h2 : 32 - b + i < a
    · have h3 : i < c := by omega
      simp [h1, h2, h3]; exact congrArg _ (by omega)
    · by_cases h3 : i < c
      · simp [h1, h2, h3]; rw [decide_eq_true (by omega)]; simp; exact congrArg _ (by omega)
      · simp [h1, h2, h3]; rw [decide_eq_true (by omega), decide_eq_true (by omega)]; simp; exact congrArg _ (by omega)
  · by_cases h2 : i - b < a
    · by_cases h3 : i < c
      · simp [h1, h2, h3]; rw [decide_eq_true (by omega)]; simp; exact congrArg _ (by omega)
      · simp [h1, h2, h3, hi]; exact congrArg _ (by omega)
    · by_cases h3 : i < c
      · exact absurd h3 (by omega)
      · simp [h1, h2, h3]; rw [decide_eq_true (by omega), decide_eq_true (by omega)]; simp; exact congrArg _ (by omega)
theorem rot_xor (N M : BitVec 32) (a : Nat) : N.rotateLeft a ^^^ M.rotateLeft a = (N ^^^ M).rotateLeft a := by
  apply BitVec.eq_of_getLsbD_eq
  intro i hi
  simp only [BitVec.getLsbD_rotateLeft, BitVec.getLsbD_xor]
  by_cases h1 : i < a % 32
  · simp [h1]
  · simp [h1, hi]
theorem rot_zero (N : BitVec 32) : N.rotateLeft 0 = N := by
  apply BitVec.eq_of_getLsbD_eq
  intro i hi
  simp [hi]
theorem xor_u32 (N M : BitVec 32) : bits .xor .u32 (N.toNat : Int) (M.toNat : Int) = ((N ^^^ M).toNat : Int) := by
  rw [u32_xor_nat _ _ N.isLt M.isLt, BitVec.toNat_xor]
theorem open_u32 (a : Int) (h : (Lit.int .u32 a).wf = true) : ∃ N : BitVec 32, a = N.toNat := by
  have h := bounds_u32 h
  refine ⟨BitVec.ofNat 32 a.toNat, ?_⟩
  rw [BitVec.toNat_ofNat, Nat.mod_eq_of_lt (by omega)]
  omega
theorem left_named (N : BitVec 32) (k : Int) (w : World) :
    Calls Try.prog 16 #[.int .u32 N.toNat, .int .i64 k] w fun e w' => ∃ R : BitVec 32, e = .returned (.int .u32 R.toNat) ∧ Hid (R = N.rotateLeft (k % 32).toNat) ∧ w = w' := by
  refine (left_any N k w).mono ?_
  rintro e w' ⟨rfl, rfl⟩
  exact ⟨_, rfl, rfl, rfl⟩
theorem there_back (N R S : BitVec 32) (x : Int) (h1 : R = N.rotateLeft (x % 32).toNat) (h2 : S = R.rotateLeft (-x % 32).toNat) : S = N := by
  subst h1
  rw [h2, rot_rot N _ _ 0 (by omega) (by omega) (by omega), rot_zero]
theorem by_both (N R S T : BitVec 32) (x y : Int) (h1 : R = N.rotateLeft (x % 32).toNat) (h2 : S = R.rotateLeft (y % 32).toNat) (h3 : T = N.rotateLeft ((x + y) % 32).toNat) : T = S := by
  subst h1
  rw [h2, rot_rot N _ _ ((x + y) % 32).toNat (by omega) (by omega) (by omega), h3]
theorem by_xor (N M A B X Y R : BitVec 32) (x : Int) (h1 : A = N.rotateLeft (x % 32).toNat) (h2 : B = M.rotateLeft (x % 32).toNat) (hX : X = A ^^^ B) (hY : Y = N ^^^ M) (h3 : R = Y.rotateLeft (x % 32).toNat) : R = X := by
  rw [h3, hX, hY, h1, h2, rot_xor]
theorem by_32 (N R S : BitVec 32) (x : Int) (h1 : R = N.rotateLeft ((x + 32) % 32).toNat) (h2 : S = N.rotateLeft (x % 32).toNat) : S = R := by
  rw [h1, h2, show (x + 32) % 32 = x % 32 from by omega]
set_option maxHeartbeats 1000000 in
theorem walk (a0 : Int) (a1 : Int) (a2 : Int) (a3 : Int) (w0 : (Lit.int .u32 a0).wf = true) (w1 : (Lit.int .u32 a1).wf = true) (w2 : (Lit.int .i16 a2).wf = true) (w3 : (Lit.int .i16 a3).wf = true) (w : World) :
    Calls Try.prog 6 #[.int .u32 a0, .int .u32 a1, .int .i16 a2, .int .i16 a3] w fun e w' => e = .returned (.bool true) ∧ Below w.heap.size w w' := by
  obtain ⟨N, rfl⟩ := open_u32 a0 w0
  obtain ⟨M, rfl⟩ := open_u32 a1 w1
  have h2 := bounds_i16 w2
  have h3 := bounds_i16 w3
  clear w0 w1 w2 w3
  obtain ⟨h21, h22⟩ := h2
  obtain ⟨h31, h32⟩ := h3
  obtain ⟨Y, hY, hy⟩ : ∃ Y : BitVec 32, Hid (Y = N ^^^ M) ∧ bits .xor .u32 (N.toNat : Int) (M.toNat : Int) = (Y.toNat : Int) := ⟨_, rfl, xor_u32 N M⟩
  go_enter Try.func6, Try.ntmps6
  go_wp2_with fail
  refine (awake_any _).mono ?_; rintro e w1 ⟨rfl, hb1⟩
  go_wp2_with fail
  refine (left_named _ _ _).mono ?_; rintro e w' ⟨R1, rfl, H1, rfl⟩
  go_wp2_with fail
  refine (left_named _ _ _).mono ?_; rintro e w' ⟨R2, rfl, H2, rfl⟩
  obtain rfl := there_back _ _ _ _ H1.out H2.out
  clear H1 H2
  go_wp2_with fail
  refine (left_named _ _ _).mono ?_; rintro e w' ⟨R3, rfl, H1, rfl⟩
  go_wp2_with fail
  refine (left_named _ _ _).mono ?_; rintro e w' ⟨R4, rfl, H2, rfl⟩
  go_wp2_with fail
  refine (left_named _ _ _).mono ?_; rintro e w' ⟨R5, rfl, H3, rfl⟩
  obtain rfl := by_both _ _ _ _ _ _ H1.out H2.out H3.out
  clear H1 H2 H3
  go_wp2_with fail
  refine (left_named _ _ _).mono ?_; rintro e w' ⟨A, rfl, HA, rfl⟩
  go_wp2_with fail
  refine (left_named _ _ _).mono ?_; rintro e w' ⟨B, rfl, HB, rfl⟩
  obtain ⟨X, hX, hx⟩ : ∃ X : BitVec 32, Hid (X = A ^^^ B) ∧ bits .xor .u32 (A.toNat : Int) (B.toNat : Int) = (X.toNat : Int) := ⟨_, rfl, xor_u32 A B⟩
  go_wp2_with fail
  refine (left_named _ _ _).mono ?_; rintro e w' ⟨R6, rfl, H1, rfl⟩
  obtain rfl := by_xor _ _ _ _ _ _ _ _ HA.out HB.out hX.out hY.out H1.out
  clear H1
  go_wp2_with fail
  refine (left_named _ _ _).mono ?_; rintro e w' ⟨R7, rfl, H1, rfl⟩
  go_wp2_with fail
  refine (left_named _ _ _).mono ?_; rintro e w' ⟨R8, rfl, H2, rfl⟩
  obtain rfl := by_32 _ _ _ _ H1.out H2.out
  go_wp2
  go_ret
  exact ⟨rfl, hb1⟩
end Go.Proofs.Ytnhgmhomkghdaaa.octetRound
