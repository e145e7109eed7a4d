/- OctetBack's walk: the law returns true; nothing that was there has turned. Conditions: none. -/
import Derived.Test.YtnhgmhomkghdaaaNamed
namespace Go.Proofs.Ytnhgmhomkghdaaa
open Go.RowKit
set_option linter.unusedVariables false
theorem take_named (s : ByteArray) (w : World) (h8 : s.size ≤ 8) :
    Calls Try.prog 12 #[.string s] w fun e w' => ∃ m : Nat, e = .returned (.tuple #[.int .u64 m, .int .i64 0]) ∧ Hid (m = num s.data.toList) ∧ w = w' := by
  refine (take_any s w h8).mono ?_
  rintro e w' ⟨rfl, rfl⟩
  exact ⟨_, rfl, rfl, rfl⟩
theorem take_long' (s : ByteArray) (w : World) (h8 : 8 < s.size) :
    Calls Try.prog 12 #[.string s] w fun e w' => e = .returned (.tuple #[.int .u64 0, .int .i64 5]) ∧ w = w' := by
  refine (take_long s w h8).mono ?_
  rintro e w' ⟨rfl, rfl⟩
  exact ⟨rfl, rfl⟩
theorem bytes_eq (a b : ByteArray) (h : a.data.toList = b.data.toList) : a = b := ByteArray.ext (Array.toList_inj.1 h)
namespace octetBack
theorem and_low (n k : Nat) (hn : n < 18446744073709551616) (hk : k < 8) : bits .and .u64 (n : Int) (IntKind.u64.wrap (IntKind.u64.wrap (2 ^ (8 * k)) - 1)) = ((n % 256 ^ k : Nat) : Int) := by
  have h1 : (2 : Nat) ^ (8 * k) < 2 ^ 64 := Nat.pow_lt_pow_right (by decide) (by omega)
  have h0 : 0 < (2 : Nat) ^ (8 * k) := Nat.two_pow_pos _
  have hc : ((2 : Int) ^ (8 * k)) = ((2 ^ (8 * k) : Nat) : Int) := by rw [Int.natCast_pow]; rfl
  have e1 : IntKind.u64.wrap (2 ^ (8 * k)) = 2 ^ (8 * k) := wraps_u64 _ (by omega) (by omega)
  rw [e1, wraps_u64 _ (by omega) (by omega), bits_mask .u64 64 (by decide) wraps_u64 (8 * k) (by omega) n (by omega) (by omega)]
  rw [Nat.pow_mul] at hc
  rw [hc, ← Int.natCast_emod]
set_option maxHeartbeats 1000000 in
theorem walk (a0 : Int) (a1 : Int) (a2 : ByteArray) (w0 : (Lit.int .u64 a0).wf = true) (w1 : (Lit.int .u8 a1).wf = true) (w2 : a2.size ≤ maxLen) (w : World) :
    Calls Try.prog 5 #[.int .u64 a0, .int .u8 a1, .string a2] w fun e w' => e = .returned (.bool true) ∧ Below w.heap.size w w' := by
  obtain ⟨n, rfl, hn⟩ := open_u64 a0 w0
  have h1 := bounds_u8 w1
  obtain ⟨h11, h12⟩ := h1
  unfold maxLen at w2
  clear w0 w1
  by_cases hbig : 1024 < a2.size
  · go_enter Try.func5, Try.ntmps5
    go_wp2_with fail
    refine (awake_any _).mono ?_; rintro e w1 ⟨rfl, hb1⟩
    go_wp2
    go_ret
    exact ⟨rfl, hb1⟩
  obtain ⟨k, hk⟩ : ∃ k : Nat, a1 % 9 = k := ⟨(a1 % 9).toNat, by omega⟩
  have hk8 : k ≤ 8 := by omega
  go_enter Try.func5, Try.ntmps5
  go_wp2_with fail
  refine (awake_any _).mono ?_; rintro e w1 ⟨rfl, hb1⟩
  go_wp2_with fail
  refine (put_named n k k _ (told_lt k hk8)).mono ?_; rintro e w2 ⟨S, rfl, HS, hb2⟩
  have hs : S.size = k := by rw [Lib.size_eq, HS.out, putL_length]
  go_wp2_with fail
  refine (take_named S _ (by omega)).mono ?_; rintro e w' ⟨m, rfl, Hm, rfl⟩
  go_wp2_with fail
  refine (put_named n k k _ (told_lt k hk8)).mono ?_; rintro e w3 ⟨T, rfl, HT, hb3⟩
  have ht : T.size = k := by rw [Lib.size_eq, HT.out, putL_length]
  have hbb := (hb1.trans (hb2.mono hb1.size))
  have hb := hbb.trans (hb3.mono hbb.size)
  clear hb1 hb2 hb3 hbb
  have hmn : Hid (m = n % 256 ^ k) := by show _ = _; rw [Hm.out, HS.out, num_putL]
  clear HS HT Hm
  by_cases hk1 : k = 8
  · subst hk1
    obtain rfl : m = n := by rw [hmn.out]; exact Nat.mod_eq_of_lt hn
    clear hmn
    by_cases hl : a2.size ≤ 8
    · go_wp2_with fail
      refine (take_named a2 _ hl).mono ?_; rintro e w' ⟨x, rfl, Hx, rfl⟩
      go_wp2_with fail
      refine (put_named x a2.size a2.size _ (told_lt a2.size hl)).mono ?_; rintro e w4 ⟨U, rfl, HU, hb4⟩
      obtain rfl : U = a2 := bytes_eq U a2 (by rw [HU.out, Hx.out, Lib.size_eq]; exact putL_num _)
      clear HU Hx
      go_wp2
      go_ret
      exact ⟨rfl, hb.trans (hb4.mono hb.size)⟩
    · go_wp2_with fail
      refine (take_long' a2 _ (by omega)).mono ?_; rintro e w' ⟨rfl, rfl⟩
      go_wp2
      go_ret
      exact ⟨ret_bool (by simp; omega), hb⟩
  · have hk2 : k < 8 := by omega
    have hk3 : ((k : Int) == 8) = false := by simp; omega
    have hand : bits .and .u64 (n : Int) (IntKind.u64.wrap (IntKind.u64.wrap (2 ^ (8 * k)) - 1)) = (m : Int) := by rw [hmn.out]; exact and_low n k hn hk2
    clear hmn
    by_cases hl : a2.size ≤ 8
    · go_wp2_with fail
      refine (take_named a2 _ hl).mono ?_; rintro e w' ⟨x, rfl, Hx, rfl⟩
      go_wp2_with fail
      refine (put_named x a2.size a2.size _ (told_lt a2.size hl)).mono ?_; rintro e w4 ⟨U, rfl, HU, hb4⟩
      obtain rfl : U = a2 := bytes_eq U a2 (by rw [HU.out, Hx.out, Lib.size_eq]; exact putL_num _)
      clear HU Hx
      go_wp2
      go_ret
      exact ⟨rfl, hb.trans (hb4.mono hb.size)⟩
    · go_wp2_with fail
      refine (take_long' a2 _ (by omega)).mono ?_; rintro e w' ⟨rfl, rfl⟩
      go_wp2
      go_ret
      exact ⟨ret_bool (by simp; omega), hb⟩
end octetBack
end Go.Proofs.Ytnhgmhomkghdaaa
