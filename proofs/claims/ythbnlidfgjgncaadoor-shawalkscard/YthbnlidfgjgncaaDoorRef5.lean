/- What the reference's Walk and Hex answer. -/
import Derived.Test.YthbnlidfgjgncaaDoorRef4
namespace Go.Proofs.YthbnlidfgjgncaaDoor
open Go.RowKit
set_option linter.unusedVariables false
set_option maxRecDepth 100000 in
set_option maxHeartbeats 1000000 in
theorem rwalk_min (k : List UInt8) (st m : Int) (hk : k.length = 32) (w : World) (hm : min st 4096 = m) :
    Calls Tryd.prog 16 #[.agg (bc k).toArray, .int .i64 st] w fun e w' => e = .returned (.agg (bc (walkF m.toNat k)).toArray) ∧ Below w.heap.size w w' := by
  have hl32 : (bc (walkF m.toNat k)).length = 32 := by rw [bc_length, walkF_length _ _ hk]
  have hz : Hid ((Tryd.prog.info? 24).map (·.size) = some (bc (walkF m.toNat k)).length) := by rw [hl32]; exact size24
  have HL : Hid ((bc (walkF m.toNat k)).length = (bc (List.replicate 32 0)).length) := by rw [hl32]; rfl
  have hm2 : m ≤ 4096 := by omega
  have hm3 : m ≤ st := by omega
  have hm4 : st ≤ m ∨ 4096 ≤ m := by omega
  clear hl32 hm
  go_enter Tryd.func16, Tryd.ntmps16
  go_wp2_with (first
    | ((with_reducible refine at_box 24 ?_); refine L_box 24 _ (bc k) rfl ?_; intro w1 h1 hb1)
    | ((with_reducible refine at_alloc 24 ?_); refine L_alloc 24 _ zero24 ?_; intro w2 h2 hb2))
  have n1 : w.heap.size < w1.heap.size := hb1.lt
  have hB : Below w.heap.size w w2 := h2.below (h1.below (Below.refl _ _) (Nat.le_refl _)) h1.size
  have b1 := h2.blk hb1 (by omega)
  clear h1 h2 hb1
  go_loopw [5] (fun i wr => ∃ j : Nat, (j : Int) ≤ max m 0 ∧ i = .int .i64 j ∧ Blk wr w.heap.size (bc (walkF j k)) 24 ∧ Blk wr w1.heap.size (bc (List.replicate 32 0)) 24 ∧ Below w.heap.size w wr) (fun i _ => m.toNat - (intOf i).toNat)
  case atStart => exact ⟨0, by omega, rfl, b1, hb2, hB⟩
  case round =>
    clear b1 hb2 hB
    obtain ⟨j, hj, rfl, b1, b2, hbw⟩ := hrel
    have hj2 : (j : Int) ≤ 4096 := by omega
    by_cases hlt : (j : Int) < m
    · obtain ⟨x, hx⟩ : ∃ x, walkF j k = x := ⟨_, rfl⟩
      have hxl : x.length = 32 := by rw [← hx]; exact walkF_length _ _ hk
      rw [hx] at b1
      have hsl := run_slice_all wr w.heap.size 0 32 24 5 Tryd.underlying24 Tryd.sizeOf5
      have hcv := blk_string (o := 0) (n := 32) (cap := 32) b1 x hxl (by rw [List.drop_zero, List.take_of_length_le (by rw [bc_length]; omega)])
      have hl32 : (bc (sum x)).length = 32 := by rw [bc_length, sum_length]
      have hz1 : Hid ((Tryd.prog.info? 24).map (·.size) = some (bc (sum x)).length) := by rw [hl32]; exact size24
      have HL1 : Hid ((bc (sum x)).length = (bc x).length) := by rw [hl32, bc_length, hxl]; rfl
      have HX : Hid (walkF (j + 1) k = sum x) := by show _ = _; rw [walkF, hx]
      have HXS : Hid ((⟨x.toArray⟩ : ByteArray).size ≤ 100000) := by show x.toArray.size ≤ _; simp [hxl]
      clear hx hxl hl32
      have n8 := b1.lt
      have n9 := b2.lt
      have i1 : (j : Int) < st := by omega
      have i2 : (j : Int) < 4096 := by omega
      go_wp2_with fail
      refine (rsum_any ⟨x.toArray⟩ HXS.out wr).mono ?_
      rw [show (⟨x.toArray⟩ : ByteArray).data.toList = x from rfl, ← sum_dig]
      rintro e w5 ⟨rfl, hb5⟩
      have c1 := b1.below hb5 n8
      have c2 := b2.below hb5 n9
      have hB5 := hbw.trans (hb5.mono (by omega))
      clear b1 b2 hb5 hcv hsl
      go_wp2_with (first
        | ((with_reducible refine at_store 24 ?_); refine L_store_all 24 _ _ w.heap.size (bc (sum x)) _ 24 rfl rfl c1 hz1.out HL1.out (bc_one _) ?_; intro w6 h6 hb6))
      refine ⟨⟨j + 1, by omega, by go_num, ?_, h6.blk c2 (by omega), h6.below hB5 (Nat.le_refl _)⟩, by simp [intOf]; omega⟩
      rw [HX.out]; exact hb6
    · have hjm : j = m.toNat := by omega
      have b3 : Blk wr w.heap.size (bc (walkF m.toNat k)) 24 := by rw [← hjm]; exact b1
      by_cases hst : (j : Int) < st
      · have i2 : (4096 : Int) ≤ (j : Int) := by omega
        clear hjm
        go_wp2_with (first
          | ((with_reducible refine at_load 24 ?_); refine L_load_all 24 _ w.heap.size _ 24 _ rfl b3 Tryd.underlying24 rfl hz.out ?_)
          | ((with_reducible refine at_store 24 ?_); refine L_store_all 24 _ _ w1.heap.size (bc (walkF m.toNat k)) _ 24 rfl rfl b2 hz.out HL.out (bc_one _) ?_; intro w8 h8 hb8))
        (try simp only [Exit.inBlock, Exit.then])
        exact bodyPost_ret (results_blk rfl w1.heap.size (bc (walkF m.toNat k)) _ rfl hb8 Tryd.underlying24 rfl hz.out) rfl ⟨rfl, h8.below hbw (by omega)⟩
      · clear hjm
        go_wp2_with (first
          | ((with_reducible refine at_load 24 ?_); refine L_load_all 24 _ w.heap.size _ 24 _ rfl b3 Tryd.underlying24 rfl hz.out ?_)
          | ((with_reducible refine at_store 24 ?_); refine L_store_all 24 _ _ w1.heap.size (bc (walkF m.toNat k)) _ 24 rfl rfl b2 hz.out HL.out (bc_one _) ?_; intro w8 h8 hb8))
        (try simp only [Exit.inBlock, Exit.then])
        exact bodyPost_ret (results_blk rfl w1.heap.size (bc (walkF m.toNat k)) _ rfl hb8 Tryd.underlying24 rfl hz.out) rfl ⟨rfl, h8.below hbw (by omega)⟩
theorem hexL_snoc (k : List UInt8) (j : Nat) (hj : j < k.length) : hexL (k.take (j + 1)) = hexL (k.take j) ++ hx2 (k.getD j 0) := by
  rw [List.take_succ_eq_append_getElem hj, hexL, List.flatMap_append, hexL, List.flatMap_singleton]
  simp [hj]
def dgB : ByteArray := ⟨#[48, 49, 50, 51, 52, 53, 54, 55, 56, 57, 97, 98, 99, 100, 101, 102]⟩
theorem digit_at (n : Nat) (hn : n < 16) : (dgB.extract n (n + 1)).data.toList = [dgs.getD n 0] := by
  have : ∀ m, m < 16 → ((dgs.drop m).take 1) = [dgs.getD m 0] := by decide
  rw [Lib.extract_data, show n + 1 - n = 1 by omega]
  exact this n hn
set_option maxRecDepth 100000 in
set_option maxHeartbeats 1000000 in
theorem rhex_any (k : List UInt8) (hk : k.length = 32) (w : World) :
    Calls Tryd.prog 14 #[.agg (bc k).toArray] w fun e w' => e = .returned (.string ⟨(hexL k).toArray⟩) ∧ Below w.heap.size w w' := by
  go_enter Tryd.func14, Tryd.ntmps14
  go_wp2_with (first
    | ((with_reducible refine at_box 24 ?_); refine L_box 24 _ (bc k) rfl ?_; intro w1 h1 hb1))
  have hB1 : Below w.heap.size w w1 := h1.below (Below.refl _ _) (Nat.le_refl _)
  clear h1
  go_loopw [3, 4] (fun o i wr => ∃ (j : Nat) (S : ByteArray), j ≤ 32 ∧ i = .int .i64 j ∧ o = .string S ∧ S.size = 2 * j ∧ Hid (S.data.toList = hexL (k.take j)) ∧ Blk wr w.heap.size (bc k) 24 ∧ Below w.heap.size w wr) (fun _ i _ => 32 - (intOf i).toNat)
  case atStart => exact ⟨0, ⟨#[]⟩, by omega, rfl, rfl, rfl, rfl, hb1, hB1⟩
  case round =>
    clear hb1 hB1
    obtain ⟨j, S, hj, rfl, rfl, hS, hSl, b1, hbw⟩ := hrel
    by_cases hlt : j < 32
    · have r1 := b1.cell j _ (bc_at k j (by omega))
      have hsn : Hid (hexL (k.take (j + 1)) = hexL (k.take j) ++ hx2 (k.getD j 0)) := hexL_snoc k j (by omega)
      generalize k.getD j 0 = b at *
      have hbt := b.toNat_lt
      have i9 : (j : Int) < 32 := by omega
      go_wp2_with fail
      go_quiet (fail)
      obtain ⟨D1, hD1⟩ : ∃ D1, (⟨#[48, 49, 50, 51, 52, 53, 54, 55, 56, 57, 97, 98, 99, 100, 101, 102]⟩ : ByteArray).extract (b.toNat / 16) (b.toNat / 16 + 1) = D1 := ⟨_, rfl⟩
      have HD1 : Hid (D1.data.toList = [dgs.getD (b.toNat / 16) 0]) := by show _ = _; rw [← hD1]; exact digit_at _ (by omega)
      have hD1s : D1.size = 1 := by rw [Lib.size_eq, HD1.out]; rfl
      rw [hD1]
      obtain ⟨S1, hS1⟩ : ∃ S1, S ++ D1 = S1 := ⟨_, rfl⟩
      have hS1s : S1.size = 2 * j + 1 := by rw [← hS1, ByteArray.size_append, hS, hD1s]
      have HS1 : Hid (S1.data.toList = hexL (k.take j) ++ [dgs.getD (b.toNat / 16) 0]) := by show _ = _; rw [← hS1, append_toList, hSl.out, HD1.out]
      rw [hS1]
      obtain ⟨w8, hw8⟩ : ∃ w8, wr.drewN nq = w8 := ⟨_, rfl⟩
      have b8 : Blk w8 w.heap.size (bc k) 24 := by rw [← hw8]; exact b1
      have hb8 : Below w.heap.size w w8 := by rw [← hw8]; exact ⟨hbw.os, hbw.tape, hbw.output, hbw.size, hbw.block⟩
      have r8 : w8.cell? ⟨w.heap.size, j, none⟩ = some (.int .u8 (b.toNat : Int)) := by rw [← hw8]; exact r1
      rw [hw8]
      clear hw8 r1 b1 hbw hS1 hD1 hSl
      go_wp2_with fail
      go_quiet (fail)
      obtain ⟨D2, hD2⟩ : ∃ D2, (⟨#[48, 49, 50, 51, 52, 53, 54, 55, 56, 57, 97, 98, 99, 100, 101, 102]⟩ : ByteArray).extract (b.toNat % 16) (b.toNat % 16 + 1) = D2 := ⟨_, rfl⟩
      have HD2 : Hid (D2.data.toList = [dgs.getD (b.toNat % 16) 0]) := by show _ = _; rw [← hD2]; exact digit_at _ (by omega)
      have hD2s : D2.size = 1 := by rw [Lib.size_eq, HD2.out]; rfl
      rw [hD2]
      clear hD2
      go_wp2_with fail
      refine ⟨⟨j + 1, S1 ++ D2, by omega, by go_num, rfl, by rw [ByteArray.size_append, hS1s, hD2s]; omega, ?_, b8, ⟨hb8.os, hb8.tape, hb8.output, hb8.size, hb8.block⟩⟩, by simp [intOf]; omega⟩
      show _ = _
      rw [append_toList, HS1.out, HD2.out, hsn.out, hx2, List.append_assoc]
      rfl
    · obtain rfl : j = 32 := by omega
      have hend : Hid (S = ⟨(hexL k).toArray⟩) := by
        apply ByteArray.ext; apply Array.toList_inj.1
        rw [hSl.out, List.take_of_length_le (by omega)]
      go_wp2_with fail
      go_ret
      exact ⟨ret_string hend.out, hbw⟩
end Go.Proofs.YthbnlidfgjgncaaDoor
