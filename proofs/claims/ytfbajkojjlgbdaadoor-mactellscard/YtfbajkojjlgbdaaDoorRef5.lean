/- What the reference's Hex answers: the bytes in sixteens. -/
import Derived.Test.YtfbajkojjlgbdaaDoorRef4
namespace Go.Proofs.YtfbajkojjlgbdaaDoor
open Go.RowKit
set_option linter.unusedVariables false
theorem hexL_snoc (k : List UInt8) (j : Nat) (hj : j < k.length) : hexL (k.take (j + 1)) = hexL (k.take j) ++ hx2 (k.getD j 0) := by
  rw [List.take_succ_eq_append_getElem hj, hexL, List.flatMap_append, hexL, List.flatMap_singleton]
  simp [hj]
def dgB : ByteArray := ⟨#[48, 49, 50, 51, 52, 53, 54, 55, 56, 57, 97, 98, 99, 100, 101, 102]⟩
theorem digit_at (n : Nat) (hn : n < 16) : (dgB.extract n (n + 1)).data.toList = [dgs.getD n 0] := by
  have : ∀ m, m < 16 → ((dgs.drop m).take 1) = [dgs.getD m 0] := by decide
  rw [Lib.extract_data, show n + 1 - n = 1 by omega]
  exact this n hn
set_option maxRecDepth 100000 in
set_option maxHeartbeats 1000000 in
theorem rhex_any (k : List UInt8) (hk : k.length = 32) (w : World) :
    Calls Tryd.prog 21 #[.agg (bc k).toArray] w fun e w' => e = .returned (.string ⟨(hexL k).toArray⟩) ∧ Below w.heap.size w w' := by
  go_enter Tryd.func21, Tryd.ntmps21
  go_wp2_with (first
    | ((with_reducible refine at_box 23 ?_); refine L_box 23 _ (bc k) rfl ?_; intro w1 h1 hb1))
  have hB1 : Below w.heap.size w w1 := h1.below (Below.refl _ _) (Nat.le_refl _)
  clear h1
  go_loopw [3, 4] (fun o i wr => ∃ (j : Nat) (S : ByteArray), j ≤ 32 ∧ i = .int .i64 j ∧ o = .string S ∧ S.size = 2 * j ∧ Hid (S.data.toList = hexL (k.take j)) ∧ Blk wr w.heap.size (bc k) 23 ∧ Below w.heap.size w wr) (fun _ i _ => 32 - (intOf i).toNat)
  case atStart => exact ⟨0, ⟨#[]⟩, by omega, rfl, rfl, rfl, rfl, hb1, hB1⟩
  case round =>
    clear hb1 hB1
    obtain ⟨j, S, hj, rfl, rfl, hS, hSl, b1, hbw⟩ := hrel
    by_cases hlt : j < 32
    · have r1 := b1.cell j _ (bc_at k j (by omega))
      have hsn : Hid (hexL (k.take (j + 1)) = hexL (k.take j) ++ hx2 (k.getD j 0)) := hexL_snoc k j (by omega)
      generalize k.getD j 0 = b at *
      have hbt := b.toNat_lt
      have i9 : (j : Int) < 32 := by omega
      go_wp2_with fail
      go_quiet (fail)
      obtain ⟨D1, hD1⟩ : ∃ D1, (⟨#[48, 49, 50, 51, 52, 53, 54, 55, 56, 57, 97, 98, 99, 100, 101, 102]⟩ : ByteArray).extract (b.toNat / 16) (b.toNat / 16 + 1) = D1 := ⟨_, rfl⟩
      have HD1 : Hid (D1.data.toList = [dgs.getD (b.toNat / 16) 0]) := by show _ = _; rw [← hD1]; exact digit_at _ (by omega)
      have hD1s : D1.size = 1 := by rw [Lib.size_eq, HD1.out]; rfl
      rw [hD1]
      obtain ⟨S1, hS1⟩ : ∃ S1, S ++ D1 = S1 := ⟨_, rfl⟩
      have hS1s : S1.size = 2 * j + 1 := by rw [← hS1, ByteArray.size_append, hS, hD1s]
      have HS1 : Hid (S1.data.toList = hexL (k.take j) ++ [dgs.getD (b.toNat / 16) 0]) := by show _ = _; rw [← hS1, append_toList, hSl.out, HD1.out]
      rw [hS1]
      obtain ⟨w8, hw8⟩ : ∃ w8, wr.drewN nq = w8 := ⟨_, rfl⟩
      have b8 : Blk w8 w.heap.size (bc k) 23 := by rw [← hw8]; exact b1
      have hb8 : Below w.heap.size w w8 := by rw [← hw8]; exact ⟨hbw.os, hbw.tape, hbw.output, hbw.size, hbw.block⟩
      have r8 : w8.cell? ⟨w.heap.size, j, none⟩ = some (.int .u8 (b.toNat : Int)) := by rw [← hw8]; exact r1
      rw [hw8]
      clear hw8 r1 b1 hbw hS1 hD1 hSl
      go_wp2_with fail
      go_quiet (fail)
      obtain ⟨D2, hD2⟩ : ∃ D2, (⟨#[48, 49, 50, 51, 52, 53, 54, 55, 56, 57, 97, 98, 99, 100, 101, 102]⟩ : ByteArray).extract (b.toNat % 16) (b.toNat % 16 + 1) = D2 := ⟨_, rfl⟩
      have HD2 : Hid (D2.data.toList = [dgs.getD (b.toNat % 16) 0]) := by show _ = _; rw [← hD2]; exact digit_at _ (by omega)
      have hD2s : D2.size = 1 := by rw [Lib.size_eq, HD2.out]; rfl
      rw [hD2]
      clear hD2
      go_wp2_with fail
      refine ⟨⟨j + 1, S1 ++ D2, by omega, by go_num, rfl, by rw [ByteArray.size_append, hS1s, hD2s]; omega, ?_, b8, ⟨hb8.os, hb8.tape, hb8.output, hb8.size, hb8.block⟩⟩, by simp [intOf]; omega⟩
      show _ = _
      rw [append_toList, HS1.out, HD2.out, hsn.out, hx2, List.append_assoc]
      rfl
    · obtain rfl : j = 32 := by omega
      have hend : Hid (S = ⟨(hexL k).toArray⟩) := by
        apply ByteArray.ext; apply Array.toList_inj.1
        rw [hSl.out, List.take_of_length_le (by omega)]
      go_wp2_with fail
      go_ret
      exact ⟨ret_string hend.out, hbw⟩
end Go.Proofs.YtfbajkojjlgbdaaDoor
