/- OctetSame's walk: the law returns true; nothing that was there has turned. Conditions: none. -/
import Derived.Test.YtnhgmhomkghdaaaBytes
namespace Go.Proofs.Ytnhgmhomkghdaaa
open Go.RowKit
set_option linter.unusedVariables false
theorem same_yes (a : ByteArray) (w : World) (ha : a.size ≤ maxLen) :
    Calls Try.prog 22 #[.string a, .string a] w fun e w' => e = .returned (.bool true) ∧ Below w.heap.size w w' := by
  have h := same_any a a w ha ha
  rw [decide_eq_true (rfl : a = a)] at h
  exact h
theorem same_no (a b : ByteArray) (w : World) (ha : a.size ≤ maxLen) (hb : b.size ≤ maxLen) (hne : a ≠ b) :
    Calls Try.prog 22 #[.string a, .string b] w fun e w' => e = .returned (.bool false) ∧ Below w.heap.size w w' := by
  have h := same_any a b w ha hb
  rw [decide_eq_false hne] at h
  exact h
namespace octetSame
set_option maxHeartbeats 1000000 in
theorem walk (a0 : ByteArray) (a1 : ByteArray) (a2 : Int) (w0 : a0.size ≤ maxLen) (w1 : a1.size ≤ maxLen) (w2 : (Lit.int .u16 a2).wf = true) (w : World) :
    Calls Try.prog 8 #[.string a0, .string a1, .int .u16 a2] w fun e w' => e = .returned (.bool true) ∧ Below w.heap.size w w' := by
  have h2 := bounds_u16 w2
  obtain ⟨h21, h22⟩ := h2
  clear w2
  have v0 : a0.size ≤ 9223372036854775807 := w0
  have v1 : a1.size ≤ 9223372036854775807 := w1
  have W0 : Hid (a0.size ≤ maxLen) := w0
  have W1 : Hid (a1.size ≤ maxLen) := w1
  clear w0 w1
  by_cases hbig : 1024 < a0.size ∨ 1024 < a1.size
  · by_cases hbig0 : 1024 < a0.size
    · go_enter Try.func8, Try.ntmps8
      go_wp2_with fail
      refine (awake_any _).mono ?_; rintro e w1 ⟨rfl, hb1⟩
      go_wp2
      go_ret
      exact ⟨rfl, hb1⟩
    · have hbig1 : 1024 < a1.size := by omega
      go_enter Try.func8, Try.ntmps8
      go_wp2_with fail
      refine (awake_any _).mono ?_; rintro e w1 ⟨rfl, hb1⟩
      go_wp2
      go_ret
      exact ⟨rfl, hb1⟩
  have u0 : a0.size ≤ 1024 := by omega
  have u1 : a1.size ≤ 1024 := by omega
  clear v0 v1 hbig
  obtain ⟨bb, hbb⟩ : ∃ bb : Bool, (a0.toList == a1.toList) = bb := ⟨_, rfl⟩
  have hsm : Hid (decide (a0 = a1) = bb) := by
    show _ = _
    rw [← hbb, Bool.eq_iff_iff]; simp [Lib.toList_data, ByteArray.ext_iff]
  obtain ⟨X, hX, hX1, hX2⟩ : ∃ X : ByteArray, a0 ++ (⟨#[0]⟩ : ByteArray) = X ∧ Hid (X.size ≤ maxLen) ∧ Hid (a0 ≠ X) := ⟨_, rfl, longer_le a0 u0, longer_ne a0⟩
  go_enter Try.func8, Try.ntmps8
  go_wp2_with fail
  refine (awake_any _).mono ?_; rintro e w1 ⟨rfl, hb1⟩
  go_wp2_with fail
  refine (same_any a0 a1 _ W0.out W1.out).mono ?_; rintro e w2 ⟨rfl, hb2⟩
  rw [hsm.out]
  have hb := hb1.trans (hb2.mono hb1.size)
  clear hb1 hb2
  go_wp2_with fail
  refine (same_yes a0 _ W0.out).mono ?_; rintro e w3 ⟨rfl, hb3⟩
  have hb13 := hb.trans (hb3.mono hb.size)
  clear hb hb3
  go_wp2_with fail
  refine (same_no a0 X _ W0.out hX1.out hX2.out).mono ?_; rintro e w4 ⟨rfl, hb4⟩
  have hb := hb13.trans (hb4.mono hb13.size)
  clear hb13 hb4 hbb hsm
  by_cases h0 : a0.size = 0
  · have h0' : a0.toList.isEmpty = true := by rw [List.isEmpty_iff, Lib.toList_data]; apply List.eq_nil_of_length_eq_zero; rw [← Lib.size_eq]; exact h0
    go_wp2
    go_ret
    exact ⟨rfl, hb⟩
  have hem := not_empty a0 (by omega)
  obtain ⟨W5, cap, hcv, hcell, hfrozen, hbW, hszW⟩ := conv_bytes w4 a0
  obtain ⟨j, hj⟩ : ∃ j : Nat, a2 % (a0.size : Int) = (j : Int) := ⟨(a2 % (a0.size : Int)).toNat, by have := Int.emod_nonneg a2 (b := (a0.size : Int)) (by omega); omega⟩
  have hjs : j < a0.size := by have := Int.emod_lt_of_pos a2 (b := (a0.size : Int)) (by omega); omega
  have c1 := hcell j hjs
  have f1 := hfrozen j hjs
  obtain ⟨v, hv, hne⟩ := turned a0[j]
  obtain ⟨c, hc, hcn, hcs⟩ := conv_back W5 w4.heap.size cap a0 hcell j hjs v hne
  have HC : Hid (∀ j (h : j < a0.size), W5.cell? ⟨w4.heap.size, j, none⟩ = some (.int .u8 (a0[j].toNat : Int))) := hcell
  clear hcell hfrozen
  have hz0 : ((a0.size : Int) == 0) = false := beq_eq_false_iff_ne.2 (by omega)
  have HN : Hid (a0 ≠ c) := hcn
  have HM : Hid (c.size ≤ maxLen) := by show _ ≤ _; rw [hcs]; exact W0.out
  clear hcn hcs
  have hbb := (hb.trans (hbW.mono hb.size)).setCell (p := ⟨w4.heap.size, j, none⟩) hb.size (.int .u8 (v.toNat : Int))
  go_wp2_with fail
  refine (same_no a0 c _ W0.out HM.out HN.out).mono ?_; rintro e w6 ⟨rfl, hb6⟩
  go_wp2
  go_ret
  exact ⟨rfl, hbb.trans (hb6.mono hbb.size)⟩
end octetSame
end Go.Proofs.Ytnhgmhomkghdaaa
