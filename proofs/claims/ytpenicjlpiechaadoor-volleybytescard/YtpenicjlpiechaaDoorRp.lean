/- What the reference's Put answers: as the program's does. -/
import Derived.Test.YtpenicjlpiechaaDoorBas
import Derived.Test.YtpenicjlpiechaaDoorSix
import Derived.Laws.IdiomStrings
namespace Go.Proofs.YtpenicjlpiechaaDoor
set_option maxRecDepth 10000
open Go Go.RowKit
set_option linter.unusedVariables false
theorem one_more (wr : World) (n k m : Nat) (S : ByteArray) (hm : m = n / 256 ^ k) (hS : S.size = k) (hl : S.data.toList = putL n k) :
    ∃ X S' : ByteArray, (convert 48 9 (.slice (some ⟨wr.heap.size, 0, none⟩) 1 1)).run Tryd.prog (wr.alloc (.cells #[.int .u8 ((m : Int) % 256)] 5)) = .ok (.string X) (wr.alloc (.cells #[.int .u8 ((m : Int) % 256)] 5)) ∧
      X ++ S = S' ∧ X.size = 1 ∧ S'.size = k + 1 ∧ Hid (S'.data.toList = putL n (k + 1)) := by
  have e : (((UInt8.ofNat (m % 256)).toNat : Nat) : Int) = (m : Int) % 256 := by
    rw [UInt8.toNat_ofNat', Nat.mod_eq_of_lt (Nat.mod_lt _ (by decide))]; omega
  have hl2 : ((⟨#[UInt8.ofNat (m % 256)]⟩ : ByteArray) ++ S).data.toList = putL n (k + 1) := by
    rw [ByteArray.data_append, Array.toList_append, hl, putL_cons, ← hm]; rfl
  refine ⟨⟨#[UInt8.ofNat (m % 256)]⟩, _, ?_, rfl, rfl, ?_, hl2⟩
  · refine run_convert_bytes_back _ 48 9 5 ⟨wr.heap.size, 0, none⟩ 1 [UInt8.ofNat (m % 256)] Tryd.underlying48 Tryd.underlying5 Tryd.underlying9 (fun j hj => ?_)
    have hj0 : j = 0 := by simp at hj; omega
    subst hj0
    have ea : (⟨wr.heap.size, 0, none⟩ : Addr).add 0 = ⟨wr.heap.size, 0, none⟩ := by unfold Addr.add; split <;> simp_all
    rw [ea, cell_of_row _ _ _ _ _ _ (heap_alloc_new wr _)]
    show some _ = some _
    rw [← e]; rfl
  · rw [Lib.size_eq, hl2, putL_length]
set_option maxHeartbeats 1000000 in
theorem rput_any (n c : Nat) (b : Int) (w : World) (hb : Told b c) (hn : n < 18446744073709551616) :
    Calls Tryd.prog 21 #[.int .u64 n, .int .i64 b] w fun e w' => e = .returned (.string ⟨(putL n c).toArray⟩) ∧ Below w.heap.size w w' := by
  have hc : c ≤ 8 := by rcases hb with h | h | h <;> omega
  have hlo : Hid (∀ k : Nat, k < c → (k : Int) < b) := by intro k hk; rcases hb with h | h | h <;> omega
  have hhi : Hid (c < 8 → b ≤ c) := by intro hk; rcases hb with h | h | h <;> omega
  clear hb
  go_enter Tryd.func21, Tryd.ntmps21
  go_wp2
  go_loopw [0, 5, 6] (fun x o i wr => ∃ (k m : Nat) (S : ByteArray), k ≤ c ∧ i = .int .i64 k ∧ x = .int .u64 m ∧ Hid (m = n / 256 ^ k) ∧ o = .string S ∧ S.size = k ∧ Hid (S.data.toList = putL n k) ∧ Below w.heap.size w wr) (fun _ _ i _ => c - (intOf i).toNat)
  case atStart => exact ⟨0, n, ByteArray.empty, Nat.zero_le _, rfl, rfl, by simp [Hid], rfl, rfl, rfl, Below.refl _ _⟩
  case round =>
    obtain ⟨k, m, S, hk, rfl, rfl, hm, rfl, hS, hSl, hbw⟩ := hrel
    by_cases hlt : k < c
    · have hkb := hlo.out k hlt
      have hmb : m ≤ 18446744073709551615 := by rw [hm.out]; exact Nat.le_trans (Nat.div_le_self _ _) (by omega)
      obtain ⟨X, S', hcv, hX, hX1, hS', hSl'⟩ := one_more wr n k m S hm.out hS hSl.out
      go_wp2
      go_roundw
      case rel => exact ⟨k + 1, m / 256, S', by omega, by go_num, by go_num, by show _ = _; rw [hm.out, Nat.div_div_eq_div_mul, Nat.pow_succ], rfl, hS', hSl', hbw.alloc hbw.size _⟩
      case measure => simp [intOf]; omega
    · have hend : Hid (S = ⟨(putL n c).toArray⟩) := by
        obtain rfl : k = c := by omega
        apply ByteArray.ext; apply Array.toList_inj.1; exact hSl.out
      by_cases h8 : c < 8
      · have hkb := hhi.out h8
        go_wp2
        go_ret
        exact ⟨ret_string hend.out, hbw⟩
      · go_wp2
        all_goals
          go_ret
          exact ⟨ret_string hend.out, hbw⟩
end Go.Proofs.YtpenicjlpiechaaDoor
