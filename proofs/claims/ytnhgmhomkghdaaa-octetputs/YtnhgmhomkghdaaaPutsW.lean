/- OctetPuts' walk: the law returns true; nothing that was there has turned. Conditions: none. -/
import Derived.Test.YtnhgmhomkghdaaaRef1
namespace Go.Proofs.Ytnhgmhomkghdaaa.octetPuts
open Go.RowKit
set_option linter.unusedVariables false
theorem rput_named (n c : Nat) (b : Int) (w : World) (hb : Told b c) (hn : n < 18446744073709551616) :
    Calls Try.prog 15 #[.int .u64 n, .int .i64 b] w fun e w' => ∃ S : ByteArray, e = .returned (.string S) ∧ Hid (S.data.toList = putL n c) ∧ Below w.heap.size w w' := by
  refine (rput_any n c b w hb hn).mono ?_
  rintro e w' ⟨rfl, h⟩
  exact ⟨_, rfl, rfl, h⟩
theorem rleft_named (N : BitVec 32) (k : Int) (w : World) :
    Calls Try.prog 17 #[.int .u32 N.toNat, .int .i64 k] w fun e w' => ∃ R : BitVec 32, e = .returned (.int .u32 R.toNat) ∧ Hid (R = N.rotateLeft (k % 32).toNat) ∧ w = w' := by
  refine (rleft_any N k w).mono ?_
  rintro e w' ⟨rfl, rfl⟩
  exact ⟨_, rfl, rfl, rfl⟩
/-- What both Takes answer. -/
def tk (s : ByteArray) (m : Nat) (f : Int) : Prop := (s.size ≤ 8 ∧ m = num s.data.toList ∧ f = 0) ∨ (8 < s.size ∧ m = 0 ∧ f = 5)
theorem tk_some (s : ByteArray) : ∃ m f, tk s m f := by
  by_cases h : s.size ≤ 8
  · exact ⟨_, _, .inl ⟨h, rfl, rfl⟩⟩
  · exact ⟨_, _, .inr ⟨by omega, rfl, rfl⟩⟩
theorem take_tk (s : ByteArray) (m : Nat) (f : Int) (w : World) (h : tk s m f) :
    Calls Try.prog 12 #[.string s] w fun e w' => e = .returned (.tuple #[.int .u64 m, .int .i64 f]) ∧ w = w' := by
  rcases h with ⟨h, rfl, rfl⟩ | ⟨h, rfl, rfl⟩
  · refine (take_any s w h).mono ?_
    rintro e w' ⟨rfl, rfl⟩; exact ⟨rfl, rfl⟩
  · refine (take_long s w h).mono ?_
    rintro e w' ⟨rfl, rfl⟩; exact ⟨rfl, rfl⟩
theorem rtake_tk (s : ByteArray) (m : Nat) (f : Int) (w : World) (h : tk s m f) :
    Calls Try.prog 13 #[.string s] w fun e w' => e = .returned (.tuple #[.int .u64 m, .int .i64 f]) ∧ w = w' := by
  rcases h with ⟨h, rfl, rfl⟩ | ⟨h, rfl, rfl⟩
  · refine (rtake_any s w h).mono ?_
    rintro e w' ⟨rfl, rfl⟩; exact ⟨rfl, rfl⟩
  · refine (rtake_long s w h).mono ?_
    rintro e w' ⟨rfl, rfl⟩; exact ⟨rfl, rfl⟩
theorem told_some (b : Int) : ∃ c, Told b c := by
  by_cases h : b < 0
  · exact ⟨0, .inl ⟨h, rfl⟩⟩
  · by_cases h2 : b ≤ 8
    · exact ⟨b.toNat, .inr (.inl ⟨by omega, h2, by omega⟩)⟩
    · exact ⟨8, .inr (.inr ⟨by omega, rfl⟩)⟩
theorem bytes_same (a b : ByteArray) (h : a.data.toList = b.data.toList) : a = b := ByteArray.ext (Array.toList_inj.1 h)
set_option maxHeartbeats 1000000 in
theorem walk (a0 : Int) (a1 : Int) (a2 : ByteArray) (w0 : (Lit.int .u64 a0).wf = true) (w1 : (Lit.int .i64 a1).wf = true) (w2 : a2.size ≤ maxLen) (w : World) :
    Calls Try.prog 3 #[.int .u64 a0, .int .i64 a1, .string a2] w fun e w' => e = .returned (.bool true) ∧ Below w.heap.size w w' := by
  obtain ⟨n, rfl, hn⟩ := open_u64 a0 w0
  have v2 : a2.size ≤ 9223372036854775807 := w2
  clear w0 w1 w2
  by_cases hbig : 1024 < a2.size
  · go_enter Try.func3, Try.ntmps3
    go_wp2_with fail
    refine (awake_any _).mono ?_; rintro e w1 ⟨rfl, hb1⟩
    go_wp2
    go_ret
    exact ⟨rfl, hb1⟩
  obtain ⟨m, f, htk⟩ := tk_some a2
  obtain ⟨c, hc⟩ := told_some a1
  have HT : Hid (tk a2 m f) := htk
  have HC : Hid (Told a1 c) := hc
  have HN : Hid (n < 18446744073709551616) := hn
  obtain ⟨N, hN⟩ : ∃ N : BitVec 32, IntKind.u32.wrap (n : Int) = (N.toNat : Int) := ⟨BitVec.ofNat 32 n, by rw [IntKind.wrap_u32, BitVec.toNat_ofNat, Int.natCast_emod]; rfl⟩
  have hN2 : (n : Int) % 4294967296 = (N.toNat : Int) := by rw [← hN, IntKind.wrap_u32]
  clear htk hc
  go_enter Try.func3, Try.ntmps3
  go_wp2_with fail
  refine (awake_any _).mono ?_; rintro e w1 ⟨rfl, hb1⟩
  go_wp2_with fail
  refine (take_tk a2 m f _ HT.out).mono ?_; rintro e w' ⟨rfl, rfl⟩
  go_wp2_with fail
  refine (rtake_tk a2 m f _ HT.out).mono ?_; rintro e w' ⟨rfl, rfl⟩
  go_wp2_with fail
  refine (put_named n c a1 _ HC.out).mono ?_; rintro e w2 ⟨S, rfl, HS, hb2⟩
  go_wp2_with fail
  refine (rput_named n c a1 _ HC.out HN.out).mono ?_; rintro e w3 ⟨T, rfl, HS2, hb3⟩
  obtain rfl : T = S := bytes_same _ _ (by rw [HS.out, HS2.out])
  have hbb := hb1.trans (hb2.mono hb1.size)
  have hb := hbb.trans (hb3.mono hbb.size)
  clear hb1 hb2 hb3 hbb HS HS2
  go_wp2_with fail
  refine (left_named _ _ _).mono ?_; rintro e w' ⟨R1, rfl, H1, rfl⟩
  go_wp2_with fail
  refine (rleft_named _ _ _).mono ?_; rintro e w' ⟨R2, rfl, H2, rfl⟩
  obtain rfl : R2 = R1 := by rw [H1.out, H2.out]
  go_wp2
  go_ret
  exact ⟨rfl, hb⟩
end Go.Proofs.Ytnhgmhomkghdaaa.octetPuts
