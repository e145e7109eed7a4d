/- OctetPads' walk: the law returns true; nothing that was there has turned. Conditions: none. -/
import Derived.Test.YtnhgmhomkghdaaaBytes
namespace Go.Proofs.Ytnhgmhomkghdaaa
open Go.RowKit
set_option linter.unusedVariables false
theorem pad_named (s : ByteArray) (t : Nat) (w : World) (h1 : 1 ≤ t) (ht : t ≤ 1099511627776) (hs : s.size ≤ 1099511627776) :
    Calls Try.prog 20 #[.string s, .int .i64 t] w fun e w' => ∃ (P : ByteArray) (c : Nat), e = .returned (.string P) ∧ Hid (P.data.toList = s.data.toList ++ List.replicate c 0) ∧ Hid (P.size % t = 0) ∧ c < t ∧ Hid (P.size = s.size + c) ∧ Below w.heap.size w w' := by
  by_cases h0 : s.size % t = 0
  · refine (pad_full s t w h1 hs h0).mono ?_
    rintro e w' ⟨rfl, rfl⟩
    exact ⟨s, 0, rfl, by simp [Hid], h0, h1, rfl, Below.refl _ _⟩
  · have hlt := Nat.mod_lt s.size (show t > 0 by omega)
    refine (pad_more s t (s.size % t) (t - s.size % t) w rfl (by omega) (by omega) (by omega) ht hs).mono ?_
    rintro e w' ⟨rfl, hb⟩
    have hsz : (⟨(s.data.toList ++ List.replicate (t - s.size % t) 0).toArray⟩ : ByteArray).size = s.size + (t - s.size % t) := by
      rw [Lib.size_eq, Lib.size_eq s]; exact (List.length_append ..).trans (by rw [List.length_replicate])
    refine ⟨_, t - s.size % t, rfl, rfl, ?_, by omega, hsz, hb⟩
    show _ = _
    rw [hsz]
    have h := Nat.div_add_mod s.size t
    rw [show s.size + (t - s.size % t) = t * (s.size / t + 1) from by rw [Nat.mul_add]; omega]
    exact Nat.mul_mod_right _ _
namespace octetPads
theorem front (P s : ByteArray) (l : List UInt8) (h : P.data.toList = s.data.toList ++ l) : P.extract 0 s.size = s := by
  rw [Lib.extract_eq, h, List.drop_zero, Nat.sub_zero, Lib.size_eq, List.take_left]
theorem back (P s : ByteArray) (l : List UInt8) (h : P.data.toList = s.data.toList ++ l) : P.extract s.size P.size = ⟨l.toArray⟩ := by
  rw [Lib.extract_eq, Lib.size_eq P, h, Lib.size_eq s, List.drop_left, List.length_append, Nat.add_sub_cancel_left, List.take_length]
set_option maxHeartbeats 1000000 in
theorem walk (a0 : ByteArray) (a1 : Int) (w0 : a0.size ≤ maxLen) (w1 : (Lit.int .u16 a1).wf = true) (w : World) :
    Calls Try.prog 9 #[.string a0, .int .u16 a1] w fun e w' => e = .returned (.bool true) ∧ Below w.heap.size w w' := by
  have h2 := bounds_u16 w1
  obtain ⟨h21, h22⟩ := h2
  clear w1
  have v0 : a0.size ≤ 9223372036854775807 := w0
  clear w0
  obtain ⟨k, hk⟩ : ∃ k : Nat, a1 % 4096 = k := ⟨(a1 % 4096).toNat, by omega⟩
  have hk1 : k ≤ 4095 := by omega
  by_cases hbig : 1024 < a0.size
  · go_enter Try.func9, Try.ntmps9
    go_wp2_with fail
    refine (awake_any _).mono ?_; rintro e w1 ⟨rfl, hb1⟩
    go_wp2
    go_ret
    exact ⟨rfl, hb1⟩
  have u0 : a0.size ≤ 1024 := by omega
  clear v0 hbig
  go_enter Try.func9, Try.ntmps9
  go_wp2_with fail
  refine (awake_any _).mono ?_; rintro e w1 ⟨rfl, hb1⟩
  go_wp2_with fail
  refine (pad_named a0 (k + 1) _ (by omega) (by omega) (by omega)).mono ?_; rintro e w2 ⟨P, c, rfl, HP, HM, hc, HS, hb2⟩
  have hb := hb1.trans (hb2.mono hb1.size)
  clear hb1 hb2
  have hpre : P.extract 0 a0.size = a0 := front P a0 _ HP.out
  have hsz : P.size = a0.size + c := HS.out
  have hmod : ((a0.size : Int) + (c : Int)) % ((k : Int) + 1) = 0 := by
    rw [show ((a0.size : Int) + (c : Int)) % ((k : Int) + 1) = (((a0.size + c) % (k + 1) : Nat) : Int) from by rw [Int.natCast_emod]; rfl, ← hsz, HM.out]; rfl
  have hne : ((k : Int) + 1 == 0) = false := beq_eq_false_iff_ne.2 (by omega)
  go_wp2_with fail
  refine (pad_full P (k + 1) _ (by omega) (by omega) HM.out).mono ?_; rintro e w' ⟨rfl, hw⟩; obtain rfl := hw.symm; clear hw
  obtain ⟨Z, hZ, hZl⟩ : ∃ Z : ByteArray, P.extract a0.size (a0.size + c) = Z ∧ Hid (Z.data.toList = List.replicate c 0) := ⟨_, rfl, by show _ = _; rw [← hsz, back P a0 _ HP.out]⟩
  have hZs : Z.size = c := by rw [Lib.size_eq, hZl.out, List.length_replicate]
  obtain ⟨W5, cap, hcv, hcell, hfrozen, hbW, hszW⟩ := conv_bytes w2 Z
  have hcell0 : ∀ j, j < c → W5.cell? ⟨w2.heap.size, j, none⟩ = some (.int .u8 0) := by
    intro j hj
    have hj' : j < Z.size := by omega
    rw [hcell j hj']
    have : Z[j] = 0 := by
      show Z.data[j] = 0
      rw [← Array.getElem_toList]
      simp [hZl.out]
    rw [this]; rfl
  have HC : Hid (∀ j, j < c → W5.cell? ⟨w2.heap.size, j, none⟩ = some (.int .u8 0)) := hcell0
  clear hcell hfrozen hcell0
  rw [hZs] at hcv
  have hfin := hb.trans (hbW.mono hb.size)
  go_wp2_with fail
  clear hcv hZ hZs hbW hszW hb hpre hsz hmod hne HP HM HS hZl
  go_loop [63] (fun i => ∃ q : Nat, q ≤ c ∧ i = .int .i64 q) (fun i => c - (intOf i).toNat)
  case atStart => exact ⟨0, Nat.zero_le _, rfl⟩
  case round =>
    obtain ⟨q, hq, rfl⟩ := hrel
    by_cases hlt : q < c
    · have c1 := HC.out q hlt
      go_wp2
      go_round
      case rel => exact ⟨q + 1, by omega, by go_num⟩
      case measure => simp [intOf]; omega
    · go_wp2
      go_ret
      exact ⟨rfl, hfin⟩
end octetPads
end Go.Proofs.Ytnhgmhomkghdaaa
