/- OctetParts' walk: the law returns true; nothing that was there has turned. Conditions: none. -/
import Derived.Test.YtnhgmhomkghdaaaRef2
import Derived.Test.YtnhgmhomkghdaaaRef3
import Derived.BigQuiet
import Derived.Deep.QuietTactic
import Derived.WalkSmall
namespace Go.Proofs.Ytnhgmhomkghdaaa.octetParts
open Go.RowKit
set_option linter.unusedVariables false
/-- Both Pads tell one text. -/
theorem both_pads (s : ByteArray) (t : Int) (ht : t ≤ 4096) (hs : s.size ≤ 1024) :
    ∃ P : ByteArray, Hid (∀ w : World, Calls Try.prog 20 #[.string s, .int .i64 t] w fun e w' => e = .returned (.string P) ∧ Below w.heap.size w w') ∧
      Hid (∀ w : World, Calls Try.prog 21 #[.string s, .int .i64 t] w fun e w' => e = .returned (.string P) ∧ Below w.heap.size w w') := by
  by_cases h1 : t < 1
  · refine ⟨s, fun w => (pad_low s t w h1).mono ?_, fun w => (rpad_low s t w h1).mono ?_⟩
    all_goals rintro e w' ⟨rfl, rfl⟩; exact ⟨rfl, Below.refl _ _⟩
  obtain ⟨n, rfl⟩ : ∃ n : Nat, t = n := ⟨t.toNat, by omega⟩
  by_cases h2 : s.size % n = 0
  · refine ⟨s, fun w => (pad_full s n w (by omega) (by omega) h2).mono ?_, fun w => (rpad_full s n w (by omega) (by omega) h2).mono ?_⟩
    all_goals rintro e w' ⟨rfl, rfl⟩; exact ⟨rfl, Below.refl _ _⟩
  have hlt := Nat.mod_lt s.size (show n > 0 by omega)
  refine ⟨_, fun w => pad_more s n (s.size % n) (n - s.size % n) w rfl (by omega) (by omega) (by omega) (by omega) (by omega), fun w => (rpad_more s n (s.size % n) (n - s.size % n) w rfl (by omega) (by omega) (by omega) (by omega) (by omega)).mono ?_⟩
  rintro e w' ⟨rfl, rfl⟩; exact ⟨rfl, Below.refl _ _⟩
set_option maxHeartbeats 2000000 in
theorem walk (a0 : ByteArray) (a1 : Int) (a2 : Int) (w0 : a0.size ≤ maxLen) (w1 : (Lit.int .i64 a1).wf = true) (w2 : (Lit.int .i64 a2).wf = true) (w : World) :
    Calls Try.prog 4 #[.string a0, .int .i64 a1, .int .i64 a2] w fun e w' => e = .returned (.bool true) ∧ Below w.heap.size w w' := by
  have h1 := bounds_i64 w1
  obtain ⟨h11, h12⟩ := h1
  have v0 : a0.size ≤ 9223372036854775807 := w0
  clear w0 w1 w2
  by_cases hbig : 1024 < a0.size
  · go_enter Try.func4, Try.ntmps4
    go_wp2_with fail
    refine (awake_any _).mono ?_; rintro e w1 ⟨rfl, hb1⟩
    go_wp2
    go_ret
    exact ⟨rfl, hb1⟩
  by_cases hbig2 : 4096 < a2
  · go_enter Try.func4, Try.ntmps4
    go_wp2_with fail
    refine (awake_any _).mono ?_; rintro e w1 ⟨rfl, hb1⟩
    go_wp2
    go_ret
    exact ⟨rfl, hb1⟩
  have u0 : a0.size ≤ 1024 := by omega
  obtain ⟨P, HP1, HP2⟩ := both_pads a0 a2 (by omega) u0
  by_cases hlow : a1 < 1
  · go_enter Try.func4, Try.ntmps4
    go_wp2_with fail
    refine (awake_any _).mono ?_; rintro e w1 ⟨rfl, hb1⟩
    go_wp2_with fail
    refine (parts_none a0 a1 _ (.inr hlow)).mono ?_; rintro e w' ⟨rfl, hw⟩; obtain rfl := hw.symm; clear hw
    go_wp2_with fail
    refine (rparts_low a0 a1 _ hlow).mono ?_; rintro e w2 ⟨rfl, hb2⟩
    have hb := hb1.trans (hb2.mono hb1.size)
    go_wp2_with fail
    refine wp_loop_rounds 1 ?_
    rw [rounds_succ]
    go_wp2_with fail
    refine (HP1.out _).mono ?_; rintro e w5 ⟨rfl, hb5⟩
    go_wp2_with fail
    refine (HP2.out _).mono ?_; rintro e w6 ⟨rfl, hb6⟩
    go_wp2
    go_ret
    exact ⟨rfl, (hb.trans (hb5.mono hb.size)).trans (hb6.mono (Nat.le_trans hb.size hb5.size))⟩
  by_cases h0 : a0.size = 0
  · have e : a0 = ByteArray.empty := by apply ByteArray.ext; exact Array.size_eq_zero_iff.1 h0
    subst e
    go_enter Try.func4, Try.ntmps4
    go_wp2_with fail
    refine (awake_any _).mono ?_; rintro e w1 ⟨rfl, hb1⟩
    go_wp2_with fail
    refine (parts_none _ a1 _ (.inl rfl)).mono ?_; rintro e w' ⟨rfl, hw⟩; obtain rfl := hw.symm; clear hw
    go_wp2_with fail
    refine (rparts_empty a1 _ (by omega)).mono ?_; rintro e w2 ⟨rfl, hb2⟩
    have hb := hb1.trans (hb2.mono hb1.size)
    go_wp2_with fail
    refine wp_loop_rounds 1 ?_
    rw [rounds_succ]
    go_wp2_with fail
    refine (HP1.out _).mono ?_; rintro e w5 ⟨rfl, hb5⟩
    go_wp2_with fail
    refine (HP2.out _).mono ?_; rintro e w6 ⟨rfl, hb6⟩
    go_wp2
    go_ret
    exact ⟨rfl, (hb.trans (hb5.mono hb.size)).trans (hb6.mono (Nat.le_trans hb.size hb5.size))⟩
  obtain ⟨b, rfl⟩ : ∃ b : Nat, a1 = b := ⟨a1.toNat, by omega⟩
  obtain ⟨q, hq⟩ : ∃ q, (a0.size - 1) / b = q := ⟨_, rfl⟩
  have HQ : Hid ((a0.size - 1) / b = q) := hq
  have hqs : q ≤ 1024 := by
    have := quo_le a0.size b q (by omega) (by omega) hq
    have h2 : q ≤ q * b := Nat.le_mul_of_pos_right q (by omega)
    omega
  clear hq
  go_enter Try.func4, Try.ntmps4
  go_wp2_with fail
  refine (awake_any _).mono ?_; rintro e w1 ⟨rfl, hb1⟩
  go_wp2_with fail
  refine (parts_some a0 b q _ (by omega) (by omega) (by omega) (by omega) HQ.out).mono ?_; rintro e w2 ⟨rfl, hown, hb2⟩
  have hb12 := hb1.trans (hb2.mono hb1.size)
  have hsz := (hown.lt _ rfl).2
  have hca : Hid (∀ j, j < q + 1 → w2.cell? ⟨w1.heap.size, j, none⟩ = some (.string (part a0 b j))) := by
    intro j hj
    rw [hown.cellAt j (by omega)]
    simp [rowS, hj]
  clear hown hb1 hb2
  go_wp2_with fail
  refine (rparts_cells a0 b q _ (by omega) (by omega) (by omega) (by omega) HQ.out).mono ?_; rintro e w3 ⟨g, cap, rfl, hcap, hcb, hb3⟩
  have HCA : Hid (∀ j, j < q + 1 → w3.cell? ⟨w1.heap.size, j, none⟩ = some (.string (part a0 b j))) := by
    intro j hj
    exact (hb3.cell (p := ⟨w1.heap.size, j, none⟩) hsz).trans (hca.out j hj)
  have HCB : Hid (∀ j, j < q + 1 → w3.cell? ⟨g, j, none⟩ = some (.string (part a0 b j))) := hcb
  have hb03 := hb12.trans (hb3.mono hb12.size)
  clear hca hcb hb3 hb12 hsz
  go_wp2_with fail
  go_loopw [32] (fun i wr => ∃ k n : Nat, k ≤ q + 1 ∧ i = .int .i64 k ∧ wr = w3.drewN n) (fun i _ => q + 1 - (intOf i).toNat)
  case atStart => exact ⟨0, 0, Nat.zero_le _, rfl, rfl⟩
  case round =>
    obtain ⟨k, n, hk, rfl, rfl⟩ := hrel
    by_cases hlt : k < q + 1
    · have c1 := HCA.out k hlt
      have c2 := HCB.out k hlt
      generalize part a0 b k = Pk at c1 c2
      go_wp2
      go_quiet (fail)
      go_wp2
      go_roundw
      case rel => exact ⟨k + 1, n + nq, by omega, by go_num, rfl⟩
      case measure => simp [intOf]; omega
    · have hb : Below w.heap.size w (w3.drewN n) := below_drewN hb03 n
      go_wp2_with fail
      refine (HP1.out _).mono ?_; rintro e w5 ⟨rfl, hb5⟩
      go_wp2_with fail
      refine (HP2.out _).mono ?_; rintro e w6 ⟨rfl, hb6⟩
      go_wp2
      go_ret
      exact ⟨rfl, (hb.trans (hb5.mono hb.size)).trans (hb6.mono (Nat.le_trans hb.size hb5.size))⟩
end Go.Proofs.Ytnhgmhomkghdaaa.octetParts
