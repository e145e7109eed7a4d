/- What the reference's Take, Put answer: as the program's do. -/
import Derived.Test.YtphocklnhoakcaaDoorBas
import Derived.Test.YtphocklnhoakcaaDoorOct4
import Derived.Test.YtphocklnhoakcaaDoorSix
namespace Go.Proofs.YtphocklnhoakcaaDoor
set_option maxRecDepth 10000
open Go.RowKit
set_option linter.unusedVariables false
set_option maxHeartbeats 400000 in
theorem rtake_any (s : ByteArray) (w : World) (h8 : s.size ≤ 8) :
    Calls Tryd.prog 71 #[.string s] w fun e w' => e = .returned (.tuple #[.int .u64 (num s.data.toList), .int .i64 0]) ∧ w' = w := by
  go_enter Tryd.func71, Tryd.ntmps71
  go_wp2
  go_loop [4, 5] (fun n i => ∃ k m : Nat, k ≤ s.size ∧ i = .int .i64 k ∧ n = .int .u64 m ∧ Hid (m = num (s.data.toList.take k))) (fun _ i => s.size - (intOf i).toNat)
  case atStart => exact ⟨0, 0, Nat.zero_le _, rfl, rfl, rfl⟩
  case round =>
    obtain ⟨k, m, hk, rfl, rfl, hm⟩ := hrel
    by_cases hlt : k < s.size
    · have hm2 : Hid (IntKind.u64.wrap (IntKind.u64.wrap (↑m * 256) + IntKind.u64.wrap ↑s[k].toNat) = ((num (s.data.toList.take (k + 1)) : Nat) : Int)) := by
        show _ = _
        have h1 := num_take_lt s k (by omega)
        rw [← hm.out] at h1
        have h2 := s[k].toNat_lt
        rw [take_snoc s k hlt, num_snoc, ← hm.out, wraps_u64 (↑m * 256) (by omega) (by omega), wraps_u64 ↑s[k].toNat (by omega) (by omega), wraps_u64 _ (by omega) (by omega)]
        omega
      go_wp2
      go_round
      case rel => exact ⟨k + 1, _, by omega, by go_num, congrArg _ hm2.out, rfl⟩
      case measure => simp [intOf]; omega
    · go_wp2
      go_ret2
      refine ⟨?_, rfl⟩
      have e : s.data.toList.take k = s.data.toList := List.take_of_length_le (by simp; omega)
      have hm' := hm.out
      rw [e] at hm'
      rw [← hm']
      rfl
set_option maxHeartbeats 400000 in
theorem rtake_long (s : ByteArray) (w : World) (h8 : 8 < s.size) :
    Calls Tryd.prog 71 #[.string s] w fun e w' => e = .returned (.tuple #[.int .u64 0, .int .i64 5]) ∧ w' = w := by
  go_enter Tryd.func71, Tryd.ntmps71
  go_wp2
  go_ret2
  exact ⟨rfl, rfl⟩
theorem one_more (wr : World) (n k m : Nat) (S : ByteArray) (hm : m = n / 256 ^ k) (hS : S.size = k) (hl : S.data.toList = putL n k) :
    ∃ X S' : ByteArray, (convert 58 9 (.slice (some ⟨wr.heap.size, 0, none⟩) 1 1)).run Tryd.prog (wr.alloc (.cells #[.int .u8 ((m : Int) % 256)] 5)) = .ok (.string X) (wr.alloc (.cells #[.int .u8 ((m : Int) % 256)] 5)) ∧
      X ++ S = S' ∧ X.size = 1 ∧ S'.size = k + 1 ∧ Hid (S'.data.toList = putL n (k + 1)) := by
  have e : (((UInt8.ofNat (m % 256)).toNat : Nat) : Int) = (m : Int) % 256 := by
    rw [UInt8.toNat_ofNat', Nat.mod_eq_of_lt (Nat.mod_lt _ (by decide))]; omega
  have hl2 : ((⟨#[UInt8.ofNat (m % 256)]⟩ : ByteArray) ++ S).data.toList = putL n (k + 1) := by
    rw [ByteArray.data_append, Array.toList_append, hl, putL_cons, ← hm]; rfl
  refine ⟨⟨#[UInt8.ofNat (m % 256)]⟩, _, ?_, rfl, rfl, ?_, hl2⟩
  · refine run_convert_bytes_back _ 58 9 5 ⟨wr.heap.size, 0, none⟩ 1 [UInt8.ofNat (m % 256)] Tryd.underlying58 Tryd.underlying5 Tryd.underlying9 (fun j hj => ?_)
    have hj0 : j = 0 := by simp at hj; omega
    subst hj0
    have ea : (⟨wr.heap.size, 0, none⟩ : Addr).add 0 = ⟨wr.heap.size, 0, none⟩ := by unfold Addr.add; split <;> simp_all
    rw [ea, cell_of_row _ _ _ _ _ _ (heap_alloc_new wr _)]
    show some _ = some _
    rw [← e]; rfl
  · rw [Lib.size_eq, hl2, putL_length]
set_option maxHeartbeats 1000000 in
theorem rput_any (n c : Nat) (b : Int) (w : World) (hb : Told b c) (hn : n < 18446744073709551616) :
    Calls Tryd.prog 39 #[.int .u64 n, .int .i64 b] w fun e w' => e = .returned (.string ⟨(putL n c).toArray⟩) ∧ Below w.heap.size w w' := by
  have hc : c ≤ 8 := by rcases hb with h | h | h <;> omega
  have hlo : Hid (∀ k : Nat, k < c → (k : Int) < b) := by intro k hk; rcases hb with h | h | h <;> omega
  have hhi : Hid (c < 8 → b ≤ c) := by intro hk; rcases hb with h | h | h <;> omega
  clear hb
  go_enter Tryd.func39, Tryd.ntmps39
  go_wp2
  go_loopw [0, 5, 6] (fun x o i wr => ∃ (k m : Nat) (S : ByteArray), k ≤ c ∧ i = .int .i64 k ∧ x = .int .u64 m ∧ Hid (m = n / 256 ^ k) ∧ o = .string S ∧ S.size = k ∧ Hid (S.data.toList = putL n k) ∧ Below w.heap.size w wr) (fun _ _ i _ => c - (intOf i).toNat)
  case atStart => exact ⟨0, n, ByteArray.empty, Nat.zero_le _, rfl, rfl, by simp [Hid], rfl, rfl, rfl, Below.refl _ _⟩
  case round =>
    obtain ⟨k, m, S, hk, rfl, rfl, hm, rfl, hS, hSl, hbw⟩ := hrel
    by_cases hlt : k < c
    · have hkb := hlo.out k hlt
      have hmb : m ≤ 18446744073709551615 := by rw [hm.out]; exact Nat.le_trans (Nat.div_le_self _ _) (by omega)
      obtain ⟨X, S', hcv, hX, hX1, hS', hSl'⟩ := one_more wr n k m S hm.out hS hSl.out
      go_wp2
      go_roundw
      case rel => exact ⟨k + 1, m / 256, S', by omega, by go_num, by go_num, by show _ = _; rw [hm.out, Nat.div_div_eq_div_mul, Nat.pow_succ], rfl, hS', hSl', hbw.alloc hbw.size _⟩
      case measure => simp [intOf]; omega
    · have hend : Hid (S = ⟨(putL n c).toArray⟩) := by
        obtain rfl : k = c := by omega
        apply ByteArray.ext; apply Array.toList_inj.1; exact hSl.out
      by_cases h8 : c < 8
      · have hkb := hhi.out h8
        go_wp2
        go_ret
        exact ⟨ret_string hend.out, hbw⟩
      · go_wp2
        all_goals
          go_ret
          exact ⟨ret_string hend.out, hbw⟩
end Go.Proofs.YtphocklnhoakcaaDoor
