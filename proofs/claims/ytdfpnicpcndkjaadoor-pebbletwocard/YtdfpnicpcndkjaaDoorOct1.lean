/- What the program's octet.Left and octet.Take answer, at every argument; the world stays as it was. -/
import Derived.Test.YtdfpnicpcndkjaaDoorRows
import Derived.WalkKit
import Derived.WalkSpells
import Derived.WalkLawsBesides
import Derived.Test.YtdfpnicpcndkjaaDoorMath
namespace Go.Proofs.YtdfpnicpcndkjaaDoor
set_option maxRecDepth 10000
open Go.RowKit

theorem ret_int {k : IntKind} {a b : Int} (h : a = b) : Ending.returned (.int k a) = .returned (.int k b) := by rw [h]

set_option maxHeartbeats 400000 in
theorem rotate_any (N : BitVec 32) (k : Int) (w : World) :
    Calls Tryd.prog 50 #[.int .u32 N.toNat, .int .i64 k] w fun e w' => e = .returned (.int .u32 (N.rotateLeft (k % 32).toNat).toNat) ∧ w' = w := by
  obtain ⟨s, hs⟩ : ∃ s : Nat, k % 32 = s := ⟨(k % 32).toNat, by omega⟩
  have hlt : s < 32 := by omega
  have hb : bits .and .u64 (IntKind.u64.wrap k) 31 = s := by rw [and31]; exact hs
  rw [hs, Int.toNat_natCast]
  have HR : Hid (bits .or .u32 (↑N.toNat * 2 ^ s % 4294967296) (↑N.toNat / 2 ^ (32 - s)) = ((N.rotateLeft s).toNat : Int)) := by
    have h := rot_or N s hlt
    rw [IntKind.wrap_u32] at h
    exact h
  clear hs
  go_enter Tryd.func50, Tryd.ntmps50
  go_wp2
  go_ret
  exact ⟨ret_int HR.out, rfl⟩

set_option maxHeartbeats 400000 in
theorem left_any (N : BitVec 32) (k : Int) (w : World) :
    Calls Tryd.prog 47 #[.int .u32 N.toNat, .int .i64 k] w fun e w' => e = .returned (.int .u32 (N.rotateLeft (k % 32).toNat).toNat) ∧ w' = w := by
  go_enter Tryd.func47, Tryd.ntmps47
  go_wp2_with (go_at_call 50; refine (rotate_any _ _ _).mono ?_; rintro e w' ⟨rfl, rfl⟩)
  go_ret
  exact ⟨rfl, rfl⟩

set_option maxHeartbeats 400000 in
theorem take_any (s : ByteArray) (w : World) (h8 : s.size ≤ 8) :
    Calls Tryd.prog 49 #[.string s] w fun e w' => e = .returned (.tuple #[.int .u64 (num s.data.toList), .int .i64 0]) ∧ w' = w := by
  go_enter Tryd.func49, Tryd.ntmps49
  go_wp2
  go_loop [4, 11] (fun n i => ∃ k m : Nat, k ≤ s.size ∧ i = .int .i64 k ∧ n = .int .u64 m ∧ Hid (m = num (s.data.toList.take k))) (fun _ i => s.size - (intOf i).toNat)
  case atStart => exact ⟨0, 0, Nat.zero_le _, rfl, rfl, rfl⟩
  case round =>
    obtain ⟨k, m, hk, rfl, rfl, hm⟩ := hrel
    by_cases hlt : k < s.size
    · have hstep : Hid (bits .or .u64 (IntKind.u64.wrap (↑m * 256)) (IntKind.u64.wrap ↑s[k].toNat) = ((num (s.data.toList.take (k + 1)) : Nat) : Int)) := by
        show _ = _
        rw [take_snoc s k hlt, num_snoc, ← hm.out]
        exact or_byte m s[k] (by rw [hm.out]; exact num_take_lt s k (by omega))
      go_wp2
      go_round
      case rel => exact ⟨k + 1, _, by omega, by go_num, congrArg _ hstep.out, rfl⟩
      case measure => simp [intOf]; omega
    · go_wp2
      go_ret2
      refine ⟨?_, rfl⟩
      have e : s.data.toList.take k = s.data.toList := List.take_of_length_le (by simp; omega)
      have hm' := hm.out
      rw [e] at hm'
      rw [← hm']
      rfl
set_option maxHeartbeats 400000 in
theorem take_long (s : ByteArray) (w : World) (h8 : 8 < s.size) :
    Calls Tryd.prog 49 #[.string s] w fun e w' => e = .returned (.tuple #[.int .u64 0, .int .i64 5]) ∧ w' = w := by
  go_enter Tryd.func49, Tryd.ntmps49
  go_wp2
  go_ret2
  exact ⟨rfl, rfl⟩
end Go.Proofs.YtdfpnicpcndkjaaDoor
