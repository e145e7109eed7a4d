/- What the reference's Take, Put, Left answer: as the program's do. -/
import Derived.Test.YtnhgmhomkghdaaaBytes
namespace Go.Proofs.Ytnhgmhomkghdaaa
open Go.RowKit
set_option linter.unusedVariables false
set_option maxHeartbeats 400000 in
theorem rtake_any (s : ByteArray) (w : World) (h8 : s.size ≤ 8) :
    Calls Try.prog 13 #[.string s] w fun e w' => e = .returned (.tuple #[.int .u64 (num s.data.toList), .int .i64 0]) ∧ w' = w := by
  go_enter Try.func13, Try.ntmps13
  go_wp2
  go_loop [4, 5] (fun n i => ∃ k m : Nat, k ≤ s.size ∧ i = .int .i64 k ∧ n = .int .u64 m ∧ Hid (m = num (s.data.toList.take k))) (fun _ i => s.size - (intOf i).toNat)
  case atStart => exact ⟨0, 0, Nat.zero_le _, rfl, rfl, rfl⟩
  case round =>
    obtain ⟨k, m, hk, rfl, rfl, hm⟩ := hrel
    by_cases hlt : k < s.size
    · have hm2 : Hid (IntKind.u64.wrap (IntKind.u64.wrap (↑m * 256) + IntKind.u64.wrap ↑s[k].toNat) = ((num (s.data.toList.take (k + 1)) : Nat) : Int)) := by
        show _ = _
        have h1 := num_take_lt s k (by omega)
        rw [← hm.out] at h1
        have h2 := s[k].toNat_lt
        rw [take_snoc s k hlt, num_snoc, ← hm.out, wraps_u64 (↑m * 256) (by omega) (by omega), wraps_u64 ↑s[k].toNat (by omega) (by omega), wraps_u64 _ (by omega) (by omega)]
        omega
      go_wp2
      go_round
      case rel => exact ⟨k + 1, _, by omega, by go_num, congrArg _ hm2.out, rfl⟩
      case measure => simp [intOf]; omega
    · go_wp2
      go_ret2
      refine ⟨?_, rfl⟩
      have e : s.data.toList.take k = s.data.toList := List.take_of_length_le (by simp; omega)
      have hm' := hm.out
      rw [e] at hm'
      rw [← hm']
      rfl
set_option maxHeartbeats 400000 in
theorem rtake_long (s : ByteArray) (w : World) (h8 : 8 < s.size) :
    Calls Try.prog 13 #[.string s] w fun e w' => e = .returned (.tuple #[.int .u64 0, .int .i64 5]) ∧ w' = w := by
  go_enter Try.func13, Try.ntmps13
  go_wp2
  go_ret2
  exact ⟨rfl, rfl⟩
theorem one_more (wr : World) (n k m : Nat) (S : ByteArray) (hm : m = n / 256 ^ k) (hS : S.size = k) (hl : S.data.toList = putL n k) :
    ∃ X S' : ByteArray, (convert 41 9 (.slice (some ⟨wr.heap.size, 0, none⟩) 1 1)).run Try.prog (wr.alloc (.cells #[.int .u8 ((m : Int) % 256)] 5)) = .ok (.string X) (wr.alloc (.cells #[.int .u8 ((m : Int) % 256)] 5)) ∧
      X ++ S = S' ∧ X.size = 1 ∧ S'.size = k + 1 ∧ Hid (S'.data.toList = putL n (k + 1)) := by
  have e : (((UInt8.ofNat (m % 256)).toNat : Nat) : Int) = (m : Int) % 256 := by
    rw [UInt8.toNat_ofNat', Nat.mod_eq_of_lt (Nat.mod_lt _ (by decide))]; omega
  have hl2 : ((⟨#[UInt8.ofNat (m % 256)]⟩ : ByteArray) ++ S).data.toList = putL n (k + 1) := by
    rw [ByteArray.data_append, Array.toList_append, hl, putL_cons, ← hm]; rfl
  refine ⟨⟨#[UInt8.ofNat (m % 256)]⟩, _, ?_, rfl, rfl, ?_, hl2⟩
  · refine run_convert_bytes_back _ 41 9 5 ⟨wr.heap.size, 0, none⟩ 1 [UInt8.ofNat (m % 256)] Try.underlying41 Try.underlying5 Try.underlying9 (fun j hj => ?_)
    have hj0 : j = 0 := by simp at hj; omega
    subst hj0
    have ea : (⟨wr.heap.size, 0, none⟩ : Addr).add 0 = ⟨wr.heap.size, 0, none⟩ := by unfold Addr.add; split <;> simp_all
    rw [ea, cell_of_row _ _ _ _ _ _ (heap_alloc_new wr _)]
    show some _ = some _
    rw [← e]; rfl
  · rw [Lib.size_eq, hl2, putL_length]
set_option maxHeartbeats 1000000 in
theorem rput_any (n c : Nat) (b : Int) (w : World) (hb : Told b c) (hn : n < 18446744073709551616) :
    Calls Try.prog 15 #[.int .u64 n, .int .i64 b] w fun e w' => e = .returned (.string ⟨(putL n c).toArray⟩) ∧ Below w.heap.size w w' := by
  have hc : c ≤ 8 := by rcases hb with h | h | h <;> omega
  have hlo : Hid (∀ k : Nat, k < c → (k : Int) < b) := by intro k hk; rcases hb with h | h | h <;> omega
  have hhi : Hid (c < 8 → b ≤ c) := by intro hk; rcases hb with h | h | h <;> omega
  clear hb
  go_enter Try.func15, Try.ntmps15
  go_wp2
  go_loopw [0, 5, 6] (fun x o i wr => ∃ (k m : Nat) (S : ByteArray), k ≤ c ∧ i = .int .i64 k ∧ x = .int .u64 m ∧ Hid (m = n / 256 ^ k) ∧ o = .string S ∧ S.size = k ∧ Hid (S.data.toList = putL n k) ∧ Below w.heap.size w wr) (fun _ _ i _ => c - (intOf i).toNat)
  case atStart => exact ⟨0, n, ByteArray.empty, Nat.zero_le _, rfl, rfl, by simp [Hid], rfl, rfl, rfl, Below.refl _ _⟩
  case round =>
    obtain ⟨k, m, S, hk, rfl, rfl, hm, rfl, hS, hSl, hbw⟩ := hrel
    by_cases hlt : k < c
    · have hkb := hlo.out k hlt
      have hmb : m ≤ 18446744073709551615 := by rw [hm.out]; exact Nat.le_trans (Nat.div_le_self _ _) (by omega)
      obtain ⟨X, S', hcv, hX, hX1, hS', hSl'⟩ := one_more wr n k m S hm.out hS hSl.out
      go_wp2
      go_roundw
      case rel => exact ⟨k + 1, m / 256, S', by omega, by go_num, by go_num, by show _ = _; rw [hm.out, Nat.div_div_eq_div_mul, Nat.pow_succ], rfl, hS', hSl', hbw.alloc hbw.size _⟩
      case measure => simp [intOf]; omega
    · have hend : Hid (S = ⟨(putL n c).toArray⟩) := by
        obtain rfl : k = c := by omega
        apply ByteArray.ext; apply Array.toList_inj.1; exact hSl.out
      by_cases h8 : c < 8
      · have hkb := hhi.out h8
        go_wp2
        go_ret
        exact ⟨ret_string hend.out, hbw⟩
      · go_wp2
        all_goals
          go_ret
          exact ⟨ret_string hend.out, hbw⟩
theorem rot_rot (N : BitVec 32) (a b c : Nat) (ha : a < 32) (hb : b < 32) (hc : c = (a + b) % 32) : (N.rotateLeft a).rotateLeft b = N.rotateLeft c := by
  apply BitVec.eq_of_getLsbD_eq
  intro i hi
  have hc2 : c < 32 := by omega
  simp only [BitVec.getLsbD_rotateLeft, Nat.mod_eq_of_lt ha, Nat.mod_eq_of_lt hb, Nat.mod_eq_of_lt hc2]
  by_cases h1 : i < b
  · by_cases h2 : 32 - b + i < a
    · have h3 : i < c := by omega
      simp [h1, h2, h3]; exact congrArg _ (by omega)
    · by_cases h3 : i < c
      · simp [h1, h2, h3]; rw [decide_eq_true (by omega)]; simp; exact congrArg _ (by omega)
      · simp [h1, h2, h3]; rw [decide_eq_true (by omega), decide_eq_true (by omega)]; simp; exact congrArg _ (by omega)
  · by_cases h2 : i - b < a
    · by_cases h3 : i < c
      · simp [h1, h2, h3]; rw [decide_eq_true (by omega)]; simp; exact congrArg _ (by omega)
      · simp [h1, h2, h3, hi]; exact congrArg _ (by omega)
    · by_cases h3 : i < c
      · exact absurd h3 (by omega)
      · simp [h1, h2, h3]; rw [decide_eq_true (by omega), decide_eq_true (by omega)]; simp; exact congrArg _ (by omega)
theorem rot_one (R : BitVec 32) : R.toNat * 2 % 4294967296 + R.toNat / 2147483648 = (R.rotateLeft 1).toNat := by
  rw [BitVec.toNat_rotateLeft]
  simp only [Nat.shiftLeft_eq, Nat.shiftRight_eq_div_pow]
  have h := R.isLt
  have h1 : R.toNat / 2147483648 < 2 ^ 1 := by omega
  show _ = (R.toNat * 2 ^ 1) % 2 ^ 32 ||| R.toNat / 2 ^ 31
  rw [show R.toNat * 2 ^ 1 % 2 ^ 32 = 2 ^ 1 * (R.toNat % 2147483648) from by omega, show R.toNat / 2 ^ 31 = R.toNat / 2147483648 from rfl]
  exact Nat.two_pow_add_eq_or_of_lt h1 _
theorem by_mod (k : Int) : (wrap64 (k.tmod 32 + 32)).tmod 32 = (((k % 32).toNat : Nat) : Int) := by
  have h : k.tmod 32 = k % 32 ∨ k.tmod 32 = k % 32 - 32 := by
    rcases Int.le_total 0 k with h | h
    · left; exact Int.tmod_eq_emod_of_nonneg h
    · have e := Int.tmod_eq_emod (a := k) (b := 32)
      rw [e]; split
      · left; omega
      · right; simp
  have hb : -32 ≤ k.tmod 32 ∧ k.tmod 32 < 32 := by omega
  rw [IntWalk.wrap64_in _ (by omega), Int.tmod_eq_emod_of_nonneg (by omega)]
  omega
set_option maxHeartbeats 400000 in
theorem rleft_any (N : BitVec 32) (k : Int) (w : World) :
    Calls Try.prog 17 #[.int .u32 N.toNat, .int .i64 k] w fun e w' => e = .returned (.int .u32 (N.rotateLeft (k % 32).toNat).toNat) ∧ w' = w := by
  obtain ⟨s, hs⟩ : ∃ s : Nat, (k % 32).toNat = s := ⟨_, rfl⟩
  have hs32 : s < 32 := by omega
  have hm := by_mod k
  rw [hs] at hm
  rw [hs]
  clear hs
  obtain ⟨T, hT, HT⟩ : ∃ T : BitVec 32, N.rotateLeft s = T ∧ Hid (T = N.rotateLeft s) := ⟨_, rfl, rfl⟩
  rw [hT]
  clear hT
  go_enter Try.func17, Try.ntmps17
  go_wp2
  clear hm
  go_loop [0, 5] (fun x i => ∃ (q : Nat) (R : BitVec 32), q ≤ s ∧ i = .int .i64 q ∧ x = .int .u32 R.toNat ∧ Hid (R = N.rotateLeft q)) (fun _ i => s - (intOf i).toNat)
  case atStart => exact ⟨0, N, Nat.zero_le _, rfl, rfl, by show _ = _; apply BitVec.eq_of_getLsbD_eq; intro i hi; simp [hi]⟩
  case round =>
    obtain ⟨q, R, hq, rfl, rfl, hR⟩ := hrel
    by_cases hlt : q < s
    · have hst : Hid (((R.toNat * 2 % 4294967296 + R.toNat / 2147483648 : Nat) : Int) = ((N.rotateLeft (q + 1)).toNat : Int)) := by
        show _ = _
        rw [rot_one, hR.out, rot_rot N q 1 (q + 1) (by omega) (by omega) (by omega)]
      go_wp2
      go_round
      case rel => exact ⟨q + 1, _, by omega, by go_num, congrArg _ hst.out, rfl⟩
      case measure => simp [intOf]; omega
    · have hqs : q = s := by omega
      have HE : Hid (((R.toNat : Nat) : Int) = (T.toNat : Int)) := by show _ = _; rw [HT.out, hR.out, hqs]
      clear hqs
      go_wp2
      go_ret
      exact ⟨ret_int HE.out, rfl⟩
end Go.Proofs.Ytnhgmhomkghdaaa
