/- The calls that every law of layer 1 asks first: they answer as they should, whatever the world is. -/
import Derived.Test.YtnhgmhomkghdaaaOct1
import Derived.Test.YtnhgmhomkghdaaaOct2
import Derived.Test.YtnhgmhomkghdaaaOct3
import Derived.Test.YtnhgmhomkghdaaaOct4
namespace Go.Proofs.Ytnhgmhomkghdaaa
open Go.RowKit
set_option linter.unusedVariables false
theorem take_012 (w : World) : Calls Try.prog 12 #[.string ⟨#[0, 1, 2]⟩] w fun e w' => e = .returned (.tuple #[.int .u64 258, .int .i64 0]) ∧ w' = w := take_any ⟨#[0, 1, 2]⟩ w (by decide)
theorem take_nine (w : World) : Calls Try.prog 12 #[.string ⟨#[49, 50, 51, 52, 53, 54, 55, 56, 57]⟩] w fun e w' => e = .returned (.tuple #[.int .u64 0, .int .i64 5]) ∧ w' = w := take_long ⟨#[49, 50, 51, 52, 53, 54, 55, 56, 57]⟩ w (by decide)
theorem put_258 (w : World) : Calls Try.prog 14 #[.int .u64 258, .int .i64 3] w fun e w' => e = .returned (.string ⟨#[0, 1, 2]⟩) ∧ Below w.heap.size w w' := put_mid 258 3 w (by decide)
theorem left_1 (w : World) : Calls Try.prog 16 #[.int .u32 2147483649, .int .i64 1] w fun e w' => e = .returned (.int .u32 3) ∧ w' = w := left_any 2147483649#32 1 w
theorem left_2 (w : World) : Calls Try.prog 16 #[.int .u32 1, .int .i64 (-1)] w fun e w' => e = .returned (.int .u32 2147483648) ∧ w' = w := left_any 1#32 (-1) w
theorem same_1 (w : World) : Calls Try.prog 22 #[.string ⟨#[97, 98]⟩, .string ⟨#[97, 98]⟩] w fun e w' => e = .returned (.bool true) ∧ Below w.heap.size w w' := same_any ⟨#[97, 98]⟩ ⟨#[97, 98]⟩ w (by decide) (by decide)
theorem same_2 (w : World) : Calls Try.prog 22 #[.string ⟨#[97, 98]⟩, .string ⟨#[97]⟩] w fun e w' => e = .returned (.bool false) ∧ Below w.heap.size w w' := same_any ⟨#[97, 98]⟩ ⟨#[97]⟩ w (by decide) (by decide)
theorem pad_1 (w : World) : Calls Try.prog 20 #[.string ⟨#[97, 98, 99]⟩, .int .i64 4] w fun e w' => e = .returned (.string ⟨#[97, 98, 99, 0]⟩) ∧ Below w.heap.size w w' := pad_more ⟨#[97, 98, 99]⟩ 4 3 1 w (by decide) (by decide) (by decide) (by decide) (by decide) (by decide)
theorem parts_1 (w : World) : Calls Try.prog 18 #[.string ⟨#[97, 98, 99, 100, 101]⟩, .int .i64 2] w fun e w' => e = .returned (.slice (some ⟨w.heap.size, 0, none⟩) 3 3) ∧ w'.cell? ⟨w.heap.size, 2, none⟩ = some (.string ⟨#[101]⟩) ∧ w.heap.size < w'.heap.size ∧ Below w.heap.size w w' := by
  refine (parts_some ⟨#[97, 98, 99, 100, 101]⟩ 2 2 w (by decide) (by decide) (by decide) (by decide) (by decide)).mono ?_
  rintro e w' ⟨rfl, hown, hb⟩
  refine ⟨rfl, ?_, ?_, hb⟩
  · rw [hown.cellAt 2 (by decide)]
    rfl
  · exact (hown.lt _ rfl).2
set_option maxHeartbeats 1000000 in
theorem awake_any (w : World) : Calls Try.prog 11 #[] w fun e w' => e = .returned (.bool true) ∧ Below w.heap.size w w' := by
  go_enter Try.func11, Try.ntmps11
  go_wp2_with fail
  refine (take_012 _).mono ?_; rintro e w' ⟨rfl, hw⟩; obtain rfl := hw.symm; clear hw
  go_wp2_with fail
  refine (take_nine _).mono ?_; rintro e w' ⟨rfl, hw⟩; obtain rfl := hw.symm; clear hw
  go_wp2_with fail
  refine (parts_1 _).mono ?_; rintro e w1 ⟨rfl, hcell, hsz, hb1⟩
  go_wp2_with fail
  refine (put_258 _).mono ?_; rintro e w2 ⟨rfl, hb2⟩
  have hcell2 := (hb2.cell (p := ⟨w.heap.size, 2, none⟩) hsz).trans hcell
  have hsz2 := Nat.lt_of_lt_of_le hsz hb2.size
  have hb12 := hb1.trans (hb2.mono hb1.size)
  clear hcell hsz hb1 hb2
  go_wp2_with fail
  refine (left_1 _).mono ?_; rintro e w' ⟨rfl, hw⟩; obtain rfl := hw.symm; clear hw
  go_wp2_with fail
  refine (left_2 _).mono ?_; rintro e w' ⟨rfl, hw⟩; obtain rfl := hw.symm; clear hw
  go_wp2_with fail
  refine (same_1 _).mono ?_; rintro e w3 ⟨rfl, hb3⟩
  have hcell3 := (hb3.cell (p := ⟨w.heap.size, 2, none⟩) hsz2).trans hcell2
  have hsz3 := Nat.lt_of_lt_of_le hsz2 hb3.size
  have hb13 := hb12.trans (hb3.mono hb12.size)
  clear hcell2 hsz2 hb12 hb3
  go_wp2_with fail
  refine (same_2 _).mono ?_; rintro e w4 ⟨rfl, hb4⟩
  have hcell4 := (hb4.cell (p := ⟨w.heap.size, 2, none⟩) hsz3).trans hcell3
  have hb14 := hb13.trans (hb4.mono hb13.size)
  clear hcell3 hsz3 hb13 hb4
  go_wp2_with fail
  refine (pad_1 _).mono ?_; rintro e w5 ⟨rfl, hb5⟩
  have hb15 := hb14.trans (hb5.mono hb14.size)
  go_wp2
  go_ret
  exact ⟨rfl, hb15⟩
end Go.Proofs.Ytnhgmhomkghdaaa
