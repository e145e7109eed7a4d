/- The contracts once more, each answer under a name of its own. -/
import Derived.Test.YtnhgmhomkghdaaaAwake
import Derived.OpenShut
namespace Go.Proofs.Ytnhgmhomkghdaaa
open Go.RowKit
set_option linter.unusedVariables false
theorem open_u64 (a : Int) (h : (Lit.int .u64 a).wf = true) : ∃ n : Nat, a = n ∧ n < 18446744073709551616 := by
  have h := bounds_u64 h
  exact ⟨a.toNat, by omega, by omega⟩
theorem put_named (n c : Nat) (b : Int) (w : World) (hb : Told b c) :
    Calls Try.prog 14 #[.int .u64 n, .int .i64 b] w fun e w' => ∃ S : ByteArray, e = .returned (.string S) ∧ Hid (S.data.toList = putL n c) ∧ Below w.heap.size w w' := by
  refine (put_any n c b w hb).mono ?_
  rintro e w' ⟨rfl, h⟩
  exact ⟨_, rfl, rfl, h⟩
theorem open_u32 (a : Int) (h : (Lit.int .u32 a).wf = true) : ∃ N : BitVec 32, a = N.toNat := by
  have h := bounds_u32 h
  refine ⟨BitVec.ofNat 32 a.toNat, ?_⟩
  rw [BitVec.toNat_ofNat, Nat.mod_eq_of_lt (by omega)]
  omega
theorem left_named (N : BitVec 32) (k : Int) (w : World) :
    Calls Try.prog 16 #[.int .u32 N.toNat, .int .i64 k] w fun e w' => ∃ R : BitVec 32, e = .returned (.int .u32 R.toNat) ∧ Hid (R = N.rotateLeft (k % 32).toNat) ∧ w = w' := by
  refine (left_any N k w).mono ?_
  rintro e w' ⟨rfl, rfl⟩
  exact ⟨_, rfl, rfl, rfl⟩
theorem told_lt (n : Nat) (h : n ≤ 8) : Told n n := .inr (.inl ⟨by omega, by omega, rfl⟩)
end Go.Proofs.Ytnhgmhomkghdaaa
