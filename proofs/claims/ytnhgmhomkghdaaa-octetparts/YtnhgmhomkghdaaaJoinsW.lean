/- OctetJoins' walk: the law returns true; nothing that was there has turned. Conditions: none. -/
import Derived.Test.YtnhgmhomkghdaaaBytes
namespace Go.Proofs.Ytnhgmhomkghdaaa
open Go.RowKit
set_option linter.unusedVariables false
theorem part_list (s : ByteArray) (b k : Nat) : (part s b k).data.toList = (s.data.toList.drop (k * b)).take b := by
  unfold part
  rw [Lib.extract_data, Lib.extract_data]
  rw [List.drop_zero, Nat.sub_zero]
  have hl : (s.data.toList.drop (k * b)).length = s.size - k * b := by rw [List.length_drop, ← Lib.size_eq]
  rw [List.take_of_length_le (l := s.data.toList.drop (k * b)) (by rw [hl]; exact Nat.le_refl _)]
  rw [← hl, ← List.take_eq_take_min]
theorem part_size (s : ByteArray) (b k : Nat) : (part s b k).size = min b (s.size - k * b) := by
  rw [Lib.size_eq, part_list, List.length_take, List.length_drop, ← Lib.size_eq]
theorem quo_le (n b q : Nat) (h1 : 1 ≤ n) (hb : 1 ≤ b) (hq : (n - 1) / b = q) : q * b ≤ n - 1 ∧ n - 1 < (q + 1) * b := by
  subst hq
  constructor
  · exact Nat.div_mul_le_self _ _
  · rw [Nat.mul_comm]; exact Nat.lt_mul_div_succ _ hb
/-- What the walk is told of the k-th part. -/
theorem part_facts (s : ByteArray) (b q k : Nat) (h1 : 1 ≤ s.size) (hb : 1 ≤ b) (hq : (s.size - 1) / b = q) (hk : k ≤ q) :
    1 ≤ (part s b k).size ∧ (part s b k).size ≤ b ∧ (part s b k).size ≤ s.size ∧ (k < q → (part s b k).size = b) := by
  obtain ⟨h2, h3⟩ := quo_le s.size b q h1 hb hq
  have h4 : k * b ≤ q * b := Nat.mul_le_mul_right b hk
  rw [part_size]
  refine ⟨by omega, by omega, by omega, fun hlt => ?_⟩
  have h5 : (k + 1) * b ≤ q * b := Nat.mul_le_mul_right b hlt
  rw [Nat.add_mul] at h5
  omega
theorem joined (s A : ByteArray) (b k : Nat) (hA : A.data.toList = s.data.toList.take (k * b)) : (A ++ part s b k).data.toList = s.data.toList.take ((k + 1) * b) := by
  rw [ByteArray.data_append, Array.toList_append, hA, part_list, Nat.add_mul, Nat.one_mul, List.take_add]
namespace octetJoins
set_option maxHeartbeats 1000000 in
theorem walk (a0 : ByteArray) (a1 : Int) (w0 : a0.size ≤ maxLen) (w1 : (Lit.int .i64 a1).wf = true) (w : World) :
    Calls Try.prog 7 #[.string a0, .int .i64 a1] w fun e w' => e = .returned (.bool true) ∧ Below w.heap.size w w' := by
  have h1 := bounds_i64 w1
  obtain ⟨h11, h12⟩ := h1
  have v0 : a0.size ≤ 9223372036854775807 := w0
  clear w0 w1
  by_cases hbig : 1024 < a0.size
  · go_enter Try.func7, Try.ntmps7
    go_wp2_with fail
    refine (awake_any _).mono ?_; rintro e w1 ⟨rfl, hb1⟩
    go_wp2
    go_ret
    exact ⟨rfl, hb1⟩
  have u0 : a0.size ≤ 1024 := by omega
  by_cases hlow : a1 < 1
  · go_enter Try.func7, Try.ntmps7
    go_wp2_with fail
    refine (awake_any _).mono ?_; rintro e w1 ⟨rfl, hb1⟩
    go_wp2_with fail
    refine (parts_none a0 a1 _ (.inr hlow)).mono ?_; rintro e w' ⟨rfl, hw⟩; obtain rfl := hw.symm; clear hw
    go_wp2
    refine wp_loop_rounds 1 ?_
    rw [rounds_succ]
    go_wp2
    go_ret
    exact ⟨rfl, hb1⟩
  by_cases h0 : a0.size = 0
  · have e : a0 = ByteArray.empty := by apply ByteArray.ext; exact Array.size_eq_zero_iff.1 h0
    subst e
    go_enter Try.func7, Try.ntmps7
    go_wp2_with fail
    refine (awake_any _).mono ?_; rintro e w1 ⟨rfl, hb1⟩
    go_wp2_with fail
    refine (parts_none _ a1 _ (.inl rfl)).mono ?_; rintro e w' ⟨rfl, hw⟩; obtain rfl := hw.symm; clear hw
    go_wp2
    refine wp_loop_rounds 1 ?_
    rw [rounds_succ]
    go_wp2
    go_ret
    exact ⟨rfl, hb1⟩
  obtain ⟨b, rfl⟩ : ∃ b : Nat, a1 = b := ⟨a1.toNat, by omega⟩
  obtain ⟨q, hq⟩ : ∃ q, (a0.size - 1) / b = q := ⟨_, rfl⟩
  have HQ : Hid ((a0.size - 1) / b = q) := hq
  have hqs : q ≤ 1024 := by
    have := quo_le a0.size b q (by omega) (by omega) hq
    have h2 : q ≤ q * b := Nat.le_mul_of_pos_right q (by omega)
    omega
  clear hq
  go_enter Try.func7, Try.ntmps7
  go_wp2_with fail
  refine (awake_any _).mono ?_; rintro e w1 ⟨rfl, hb1⟩
  go_wp2_with fail
  refine (parts_some a0 b q _ (by omega) (by omega) (by omega) (by omega) HQ.out).mono ?_; rintro e w2 ⟨rfl, hown, hb2⟩
  have hb := hb1.trans (hb2.mono hb1.size)
  clear hb2
  go_wp2_with fail
  go_loop [5, 19] (fun x i => ∃ (k : Nat) (A : ByteArray), k ≤ q + 1 ∧ i = .int .i64 k ∧ x = .string A ∧ Hid (A.data.toList = a0.data.toList.take (k * b)) ∧ A.size ≤ 1024) (fun _ i => q + 1 - (intOf i).toNat)
  case atStart => exact ⟨0, ByteArray.empty, Nat.zero_le _, rfl, rfl, by show _ = _; rw [Nat.zero_mul]; rfl, by decide⟩
  case round =>
    obtain ⟨k, A, hk, rfl, rfl, hA, hAs⟩ := hrel
    by_cases hlt : k < q + 1
    · obtain ⟨f1, f2, f3, f4⟩ := part_facts a0 b q k (by omega) (by omega) HQ.out (by omega)
      have hc0 : w2.cell? ⟨w1.heap.size, k, none⟩ = some (.string (part a0 b k)) := by
        rw [hown.cellAt k (by omega)]
        simp [rowS, hlt]
      have hj := joined a0 A b k hA.out
      have HO := hown
      clear hown
      generalize part a0 b k = Pk at *
      obtain ⟨A', hA'⟩ : ∃ A', A ++ Pk = A' := ⟨_, rfl⟩
      have hj' : Hid (A'.data.toList = a0.data.toList.take ((k + 1) * b)) := by rw [← hA']; exact hj
      have hA's : A'.size ≤ 1024 := by
        rw [Lib.size_eq, hj'.out, List.length_take, ← Lib.size_eq]; omega
      have hne := not_empty Pk f1
      clear hj HO
      by_cases hlast : k < q
      · have f5 := f4 hlast
        clear f4
        go_wp2
        go_round
        case rel => exact ⟨k + 1, A', by omega, by go_num, rfl, hj', hA's⟩
        case measure => simp [intOf]; omega
      · clear f4
        go_wp2
        go_round
        case rel => exact ⟨k + 1, A', by omega, by go_num, rfl, hj', hA's⟩
        case measure => simp [intOf]; omega
    · have hkq : k = q + 1 := by omega
      have hend : A = a0 := by
        apply ByteArray.ext; apply Array.toList_inj.1
        rw [hA.out, hkq]
        have := quo_le a0.size b q (by omega) (by omega) HQ.out
        exact List.take_of_length_le (by rw [← Lib.size_eq]; omega)
      subst hend
      clear hkq hA
      go_wp2
      go_ret
      exact ⟨rfl, hb⟩
end octetJoins
end Go.Proofs.Ytnhgmhomkghdaaa
