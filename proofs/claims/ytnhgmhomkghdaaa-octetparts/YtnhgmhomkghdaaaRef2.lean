/- What the reference's Pad answers: as the program's does. -/
import Derived.Test.YtnhgmhomkghdaaaBytes
namespace Go.Proofs.Ytnhgmhomkghdaaa
open Go.RowKit
set_option linter.unusedVariables false
set_option maxHeartbeats 400000 in
theorem rpad_low (s : ByteArray) (t : Int) (w : World) (h : t < 1) :
    Calls Try.prog 21 #[.string s, .int .i64 t] w fun e w' => e = .returned (.string s) ∧ w' = w := by
  go_enter Try.func21, Try.ntmps21
  go_wp2
  refine wp_loop_rounds 1 ?_
  rw [rounds_succ]
  go_wp2
  go_ret
  exact ⟨rfl, rfl⟩
set_option maxHeartbeats 400000 in
theorem rpad_full (s : ByteArray) (t : Nat) (w : World) (h : 1 ≤ t) (hs : s.size ≤ 1099511627776) (h0 : s.size % t = 0) :
    Calls Try.prog 21 #[.string s, .int .i64 t] w fun e w' => e = .returned (.string s) ∧ w' = w := by
  have h1 : ((s.size : Int) % (t : Int)) = 0 := by omega
  have hne : ((t : Int) == 0) = false := beq_eq_false_iff_ne.2 (by omega)
  go_enter Try.func21, Try.ntmps21
  go_wp2
  refine wp_loop_rounds 1 ?_
  rw [rounds_succ]
  go_wp2
  go_ret
  exact ⟨rfl, rfl⟩
/-- How long a text in a slot is. -/
def szOf : Value → Nat | .string S => S.size | _ => 0
theorem pad_step (S s : ByteArray) (j : Nat) (h : S.data.toList = s.data.toList ++ List.replicate j 0) : (S ++ (⟨#[0]⟩ : ByteArray)).data.toList = s.data.toList ++ List.replicate (j + 1) 0 := by
  rw [ByteArray.data_append, Array.toList_append, h, List.replicate_succ', List.append_assoc]
set_option maxHeartbeats 1000000 in
theorem rpad_more (s : ByteArray) (t r c : Nat) (w : World) (hr : s.size % t = r) (h1 : 1 ≤ r) (h2 : 1 ≤ c) (hc : r + c = t) (ht : t ≤ 1099511627776) (hs : s.size ≤ 1099511627776) :
    Calls Try.prog 21 #[.string s, .int .i64 t] w fun e w' => e = .returned (.string ⟨(s.data.toList ++ List.replicate c 0).toArray⟩) ∧ w' = w := by
  have hmods : Hid (∀ j, j < c → ((s.size : Int) + (j : Int)) % (t : Int) = (r : Int) + (j : Int)) := by
    intro j hj
    have h3 := Nat.div_add_mod s.size t
    rw [hr] at h3
    have e : s.size + j = (r + j) + t * (s.size / t) := by omega
    have e2 : (s.size + j) % t = r + j := by rw [e, Nat.add_mul_mod_self_left, Nat.mod_eq_of_lt (by omega)]
    have e3 := congrArg (fun n : Nat => (n : Int)) e2
    simpa [Int.natCast_emod] using e3
  have hmodc : Hid (((s.size : Int) + (c : Int)) % (t : Int) = 0) := by
    have h3 := Nat.div_add_mod s.size t
    rw [hr] at h3
    have e : s.size + c = t + t * (s.size / t) := by omega
    have e2 : (s.size + c) % t = 0 := by rw [e, Nat.add_mul_mod_self_left, Nat.mod_self]
    have e3 := congrArg (fun n : Nat => (n : Int)) e2
    simpa [Int.natCast_emod, Hid] using e3
  have hne : ((t : Int) == 0) = false := beq_eq_false_iff_ne.2 (by omega)
  have ht1 : 1 ≤ t := by omega
  have hct : c ≤ t := by omega
  clear hr hc
  go_enter Try.func21, Try.ntmps21
  go_wp2
  go_loop [0] (fun x => ∃ (j : Nat) (S : ByteArray), j ≤ c ∧ x = .string S ∧ S.size = s.size + j ∧ Hid (S.data.toList = s.data.toList ++ List.replicate j 0)) (fun x => s.size + c - szOf x)
  case atStart => exact ⟨0, s, Nat.zero_le _, rfl, rfl, by simp [Hid]⟩
  case round =>
    obtain ⟨j, S, hj, rfl, hSs, hS⟩ := hrel
    by_cases hlt : j < c
    · have hm := hmods.out j hlt
      obtain ⟨S', hS', hl'⟩ : ∃ S' : ByteArray, S ++ (⟨#[0]⟩ : ByteArray) = S' ∧ Hid (S'.data.toList = s.data.toList ++ List.replicate (j + 1) 0) := ⟨_, rfl, pad_step S s j hS.out⟩
      have hS's : S'.size = s.size + (j + 1) := by rw [Lib.size_eq, hl'.out, List.length_append, List.length_replicate, ← Lib.size_eq]
      go_wp2
      go_round
      case rel => exact ⟨j + 1, S', by omega, rfl, hS's, hl'⟩
      case measure => simp only [szOf]; omega
    · obtain rfl : j = c := by omega
      have hm := hmodc.out
      have hend : Hid (S = ⟨(s.data.toList ++ List.replicate j 0).toArray⟩) := by
        apply ByteArray.ext; apply Array.toList_inj.1; exact hS.out
      go_wp2
      go_ret
      exact ⟨ret_string hend.out, rfl⟩
end Go.Proofs.Ytnhgmhomkghdaaa
