/- What the program's octet.Same answers, at every argument; the world is as it was, but for draws. -/
import Derived.Test.YtfbajkojjlgbdaaDoorRows
import Derived.WalkKit
import Derived.WalkSpells
import Derived.WalkLawsBesides
import Derived.BigQuiet
import Derived.Deep.QuietTactic
import Derived.WalkSmall
import Derived.Test.YtfbajkojjlgbdaaDoorMath
namespace Go.Proofs.YtfbajkojjlgbdaaDoor
open Go.RowKit
set_option linter.unusedVariables false
theorem ret_bool {a b : Bool} (h : a = b) : Ending.returned (.bool a) = .returned (.bool b) := by rw [h]
theorem fin_short (a b : ByteArray) (u k : Nat) (e : k = a.size) (hm : a.size ≤ b.size) (h : u = 0 ↔ a.data.toList.take k = b.data.toList.take k) : decide (a = b) = (decide (u = 0) && decide (a.size = b.size)) := by
  rw [Bool.eq_iff_iff]; simp only [Bool.and_eq_true, decide_eq_true_eq]
  constructor
  · rintro rfl; exact ⟨h.2 rfl, rfl⟩
  · rintro ⟨h1, h2⟩; exact same_of_take a b k e.symm (by omega) (h.1 h1)
theorem fin_long (a b : ByteArray) (u k : Nat) (e : k = b.size) (hm : b.size < a.size) (h : u = 0 ↔ a.data.toList.take k = b.data.toList.take k) : decide (a = b) = (decide (u = 0) && decide (a.size = b.size)) := by
  rw [Bool.eq_iff_iff]; simp only [Bool.and_eq_true, decide_eq_true_eq]
  constructor
  · rintro rfl; exact ⟨h.2 rfl, rfl⟩
  · rintro ⟨h1, h2⟩; exact same_of_take a b k (by omega) e.symm (h.1 h1)
set_option maxHeartbeats 1000000 in
theorem same_short (a b : ByteArray) (w : World) (ha : a.size ≤ maxLen) (hb : b.size ≤ maxLen) (hm : a.size ≤ b.size) :
    Calls Tryd.prog 22 #[.string a, .string b] w fun e w' => e = .returned (.bool (decide (a = b))) ∧ Below w.heap.size w w' := by
  unfold maxLen at ha hb
  go_enter Tryd.func22, Tryd.ntmps22
  go_wp2
  go_loopw [5, 12] (fun x i wr => ∃ k u : Nat, k ≤ a.size ∧ i = .int .i64 k ∧ x = .int .u8 u ∧ u < 256 ∧ Hid (u = 0 ↔ a.data.toList.take k = b.data.toList.take k) ∧ Below w.heap.size w wr) (fun _ i _ => a.size - (intOf i).toNat)
  case atStart => exact ⟨0, 0, Nat.zero_le _, rfl, rfl, by decide, by simp [Hid], Below.refl _ _⟩
  case round =>
    obtain ⟨k, u, hk, rfl, rfl, hu, hz, hbw⟩ := hrel
    by_cases hlt : k < a.size
    · have h1 : k < a.size := by omega
      have h2 : k < b.size := by omega
      obtain ⟨v, hv, hv2, hv3⟩ := or_xor u a[k] b[k] hu
      have hz2 : Hid (v = 0 ↔ a.data.toList.take (k + 1) = b.data.toList.take (k + 1)) := by
        show _ ↔ _
        rw [hv3, take_snoc a k h1, take_snoc b k h2, hz.out]
        constructor
        · rintro ⟨e1, e2⟩; rw [e1, e2]
        · intro e
          have e := List.append_inj' e rfl
          exact ⟨e.1, by simpa using e.2⟩
      clear hv3
      go_wp2
      go_quiet (fail)
      go_wp2
      go_roundw
      case rel => exact ⟨k + 1, v, by omega, by go_num, rfl, hv2, hz2, below_drewN hbw _⟩
      case measure => simp [intOf]; omega
    · have hfin := hz.out
      have e : k = a.size := by omega
      have HF : Hid (decide (a = b) = (decide (u = 0) && decide (a.size = b.size))) := fin_short a b u k e hm hfin
      clear hfin
      by_cases hu0 : u = 0
      · have h : ((a.size : Int) == (b.size : Int)) = decide (a = b) := by rw [HF.out, Bool.eq_iff_iff]; simp [hu0]; omega
        have H : Hid (((a.size : Int) == (b.size : Int)) = decide (a = b)) := h
        clear h
        go_wp2
        go_ret
        exact ⟨ret_bool H.out, hbw⟩
      · have H : Hid (false = decide (a = b)) := by show _ = _; rw [HF.out]; simp [hu0]
        go_wp2
        go_ret
        exact ⟨ret_bool H.out, hbw⟩
set_option maxHeartbeats 1000000 in
theorem same_long (a b : ByteArray) (w : World) (ha : a.size ≤ maxLen) (hb : b.size ≤ maxLen) (hm : b.size < a.size) :
    Calls Tryd.prog 22 #[.string a, .string b] w fun e w' => e = .returned (.bool (decide (a = b))) ∧ Below w.heap.size w w' := by
  unfold maxLen at ha hb
  go_enter Tryd.func22, Tryd.ntmps22
  go_wp2
  go_loopw [5, 12] (fun x i wr => ∃ k u : Nat, k ≤ b.size ∧ i = .int .i64 k ∧ x = .int .u8 u ∧ u < 256 ∧ Hid (u = 0 ↔ a.data.toList.take k = b.data.toList.take k) ∧ Below w.heap.size w wr) (fun _ i _ => b.size - (intOf i).toNat)
  case atStart => exact ⟨0, 0, Nat.zero_le _, rfl, rfl, by decide, by simp [Hid], Below.refl _ _⟩
  case round =>
    obtain ⟨k, u, hk, rfl, rfl, hu, hz, hbw⟩ := hrel
    by_cases hlt : k < b.size
    · have h1 : k < a.size := by omega
      have h2 : k < b.size := by omega
      obtain ⟨v, hv, hv2, hv3⟩ := or_xor u a[k] b[k] hu
      have hz2 : Hid (v = 0 ↔ a.data.toList.take (k + 1) = b.data.toList.take (k + 1)) := by
        show _ ↔ _
        rw [hv3, take_snoc a k h1, take_snoc b k h2, hz.out]
        constructor
        · rintro ⟨e1, e2⟩; rw [e1, e2]
        · intro e
          have e := List.append_inj' e rfl
          exact ⟨e.1, by simpa using e.2⟩
      clear hv3
      go_wp2
      go_quiet (fail)
      go_wp2
      go_roundw
      case rel => exact ⟨k + 1, v, by omega, by go_num, rfl, hv2, hz2, below_drewN hbw _⟩
      case measure => simp [intOf]; omega
    · have hfin := hz.out
      have e : k = b.size := by omega
      have HF : Hid (decide (a = b) = (decide (u = 0) && decide (a.size = b.size))) := fin_long a b u k e hm hfin
      clear hfin
      by_cases hu0 : u = 0
      · have h : ((a.size : Int) == (b.size : Int)) = decide (a = b) := by rw [HF.out, Bool.eq_iff_iff]; simp [hu0]; omega
        have H : Hid (((a.size : Int) == (b.size : Int)) = decide (a = b)) := h
        clear h
        go_wp2
        go_ret
        exact ⟨ret_bool (by rw [← H.out]), hbw⟩
      · have H : Hid (false = decide (a = b)) := by show _ = _; rw [HF.out]; simp [hu0]
        go_wp2
        go_ret
        exact ⟨ret_bool H.out, hbw⟩
theorem same_any (a b : ByteArray) (w : World) (ha : a.size ≤ maxLen) (hb : b.size ≤ maxLen) :
    Calls Tryd.prog 22 #[.string a, .string b] w fun e w' => e = .returned (.bool (decide (a = b))) ∧ Below w.heap.size w w' := by
  by_cases h : a.size ≤ b.size
  · exact same_short a b w ha hb h
  · exact same_long a b w ha hb (by omega)
end Go.Proofs.YtfbajkojjlgbdaaDoor
