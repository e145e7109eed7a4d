/- What the reference's Of, Short and Right answer: as the program's do. -/
import Derived.Test.YtfbajkojjlgbdaaDoorRefM1
namespace Go.Proofs.YtfbajkojjlgbdaaDoor
open Go.RowKit
set_option linter.unusedVariables false

set_option maxRecDepth 100000 in
set_option maxHeartbeats 1000000 in
theorem rof_any (k : List UInt8) (hk : k.length = 32) (T : ByteArray) (hTs : T.size ≤ 300) (w : World) :
    Calls Tryd.prog 14 #[.agg (bc k).toArray, .string T] w fun e w' => e = .returned (.agg (bc (tag k T.data.toList)).toArray) ∧ Below w.heap.size w w' := by
  obtain ⟨R, hR⟩ : ∃ R, tag k T.data.toList = R := ⟨_, rfl⟩
  rw [hR]
  have HRL : Shut (R.length = 32) := ⟨by rw [← hR]; exact tag_length _ _⟩
  have HR : Shut (tag (⟨k.toArray⟩ : ByteArray).data.toList T.data.toList = R) := ⟨hR⟩
  have HKS : Shut ((⟨k.toArray⟩ : ByteArray).size ≤ 300) := ⟨by show k.toArray.size ≤ _; simp [hk]⟩
  clear hR
  go_enter Tryd.func14, Tryd.ntmps14
  go_wp2_with (first
    | ((with_reducible refine at_box 23 ?_); refine L_box 23 _ (bc k) rfl ?_; intro w0 h0 hb0)
    | ((with_reducible refine at_alloc 23 ?_); refine L_alloc 23 _ zero23 ?_; intro w1 h1 hb1; have hsl := run_slice_all w1 w.heap.size 0 32 23 5 Tryd.underlying23 Tryd.sizeOf5; have hcv := blk_all k hk (h1.blk hb0 (by have := hb0.lt; omega))))
  have n0 : w.heap.size < w0.heap.size := hb0.lt
  have n1 : w0.heap.size < w1.heap.size := hb1.lt
  have hB1 : Below w.heap.size w w1 := h1.below (h0.below (Below.refl _ _) (Nat.le_refl _)) h0.size
  clear h0 h1 hb0 hsl hcv
  refine (rtag_any ⟨k.toArray⟩ T HKS.out hTs w1).mono ?_; rw [HR.out]; rintro e w3 ⟨rfl, hb3⟩
  have hB3 : Below w.heap.size w w3 := hB1.trans (hb3.mono (by omega))
  have c3 := hb1.below hb3 (by omega)
  go_wp2_with (first
    | ((with_reducible refine at_store 23 ?_); refine L_store_all 23 _ _ w0.heap.size (bc R) _ 23 rfl rfl c3 (zk23 R HRL.out) (by rw [bc_length, HRL.out]; rfl) (bc_one _) ?_; intro w8 h8 hb8))
  (try simp only [Exit.inBlock, Exit.then])
  exact bodyPost_ret (results_blk rfl w0.heap.size (bc R) _ rfl hb8 Tryd.underlying23 rfl (zk23 R HRL.out)) rfl ⟨rfl, h8.below hB3 (by omega)⟩
theorem take_one (R : List UInt8) (j : Nat) (h : j < R.length) (x : UInt8) (hx : R.getD j 0 = x) : R.take (j + 1) = R.take j ++ [x] := by
  have hx2 : R[j] = x := by rw [← hx]; simp [h]
  rw [List.take_succ_eq_append_getElem h, hx2]
set_option maxRecDepth 100000 in
set_option maxHeartbeats 1000000 in
theorem rshort_any (K T : ByteArray) (n : Int) (hK : K.size ≤ 300) (hTs : T.size ≤ 300) (w : World) :
    Calls Tryd.prog 16 #[.string K, .string T, .int .i64 n] w fun e w' => e = .returned (.string (fst K T n)) ∧ Below w.heap.size w w' := by
  obtain ⟨m, hm⟩ : ∃ m, cutN n = m := ⟨_, rfl⟩
  obtain ⟨R, hR⟩ : ∃ R, tag K.data.toList T.data.toList = R := ⟨_, rfl⟩
  have HRL : Shut (R.length = 32) := ⟨by rw [← hR]; exact tag_length _ _⟩
  have HR : Shut (tag K.data.toList T.data.toList = R) := ⟨hR⟩
  obtain ⟨F, hF⟩ : ∃ F, fst K T n = F := ⟨_, rfl⟩
  have HFD : Shut (F.data.toList = R.take m) := ⟨by rw [← hF, ← hR, ← hm]; rfl⟩
  rw [hF]
  have hm32 : m ≤ 32 := by rw [← hm]; exact cutN_le n
  have hlo : ∀ j : Nat, j < m → (j : Int) < n := fun j hj => by rw [← hm] at hj; unfold cutN at hj; omega
  have hhi : m < 32 → n ≤ m := fun h => by rw [← hm] at h ⊢; unfold cutN at h ⊢; omega
  have HLO : Shut (∀ j : Nat, j < m → (j : Int) < n) := ⟨hlo⟩
  have HHI : Shut (m < 32 → n ≤ m) := ⟨hhi⟩
  clear hR hm hF hlo hhi
  go_enter Tryd.func16, Tryd.ntmps16
  go_wp2_with fail
  refine (rtag_any K T hK hTs w).mono ?_; rw [HR.out]; rintro e w1 ⟨rfl, hb1⟩
  have n1 := hb1.size
  go_wp2_with (first
    | ((with_reducible refine at_alloc 23 ?_); refine L_alloc 23 _ zero23 ?_; intro w2 h2 hb2)
    | ((with_reducible refine at_store 23 ?_); refine L_store_all 23 _ _ w1.heap.size (bc R) _ 23 rfl rfl hb2 (zk23 R HRL.out) (by rw [bc_length, HRL.out]; rfl) (bc_one _) ?_; intro w3 h3 hb3))
  have hB3 : Below w.heap.size w w3 := h3.below (h2.below hb1 n1) n1
  clear h2 h3 hb1 hb2
  go_loopw [8, 9] (fun o i wr => ∃ (j : Nat) (S : ByteArray), j ≤ m ∧ i = .int .i64 j ∧ o = .string S ∧ S.size = j ∧ Shut (S.data.toList = R.take j) ∧ Blk wr w1.heap.size (bc R) 23 ∧ Below w.heap.size w wr) (fun _ i _ => 32 - (intOf i).toNat)
  case atStart => exact ⟨0, ⟨#[]⟩, by omega, rfl, rfl, rfl, ⟨rfl⟩, hb3, hB3⟩
  case round =>
    clear hb3 hB3
    obtain ⟨j, S, hj, rfl, rfl, hS, hSl, b1, hbw⟩ := hrel
    have nr := b1.lt
    by_cases hlt : j < m
    · have hjn := HLO.out j hlt
      have i9 : (j : Int) < 32 := by omega
      have r1 := b1.cell j _ (bc_at R j (by have := HRL.out; omega))
      obtain ⟨x, hx⟩ : ∃ x, R.getD j 0 = x := ⟨_, rfl⟩
      rw [hx] at r1
      have HSN : Shut (R.take (j + 1) = R.take j ++ [x]) := ⟨take_one R j (by have := HRL.out; omega) x hx⟩
      obtain ⟨Y, hY⟩ : ∃ Y : ByteArray, S ++ (⟨#[x]⟩ : ByteArray) = Y := ⟨_, rfl⟩
      have HYD : Shut (Y.data.toList = R.take (j + 1)) := ⟨by rw [← hY, bytes_append, hSl.out, HSN.out]⟩
      have hYs : Y.size = j + 1 := by rw [← hY, ByteArray.size_append, hS]; rfl
      have hxl := x.toNat_lt
      clear hx
      go_wp2_with (first
        | ((with_reducible refine at_buildD 26 1 ?_); refine L_b1 _ x rfl ?_; intro wa ha ba; have hcv := blk_string (o := 0) (n := 1) (cap := 1) ba [x] rfl rfl))
      refine ⟨⟨j + 1, Y, by omega, by go_num, rfl, hYs, HYD, ha.blk b1 (by omega), ha.below hbw hbw.size⟩, by simp [intOf]; omega⟩
    · obtain rfl : j = m := by omega
      have hend : Shut (S = F) := ⟨by apply ByteArray.ext; apply Array.toList_inj.1; rw [hSl.out, HFD.out]⟩
      by_cases h32 : j < 32
      · have hjn := HHI.out h32
        have i9 : (j : Int) < 32 := by omega
        go_wp2_with fail
        go_ret
        exact ⟨ret_string hend.out, hbw⟩
      · have i9 : ¬ (j : Int) < 32 := by omega
        go_wp2_with fail
        go_ret
        exact ⟨ret_string hend.out, hbw⟩
theorem right_long (K T G : ByteArray) (h : 32 < G.size) : rightB K T G = false := by
  unfold rightB
  simp only [decide_eq_false_iff_not, not_and]
  intro _ e
  have e2 := congrArg ByteArray.size e
  rw [fst_size] at e2
  have := cutN_le G.size
  omega
set_option maxRecDepth 100000 in
set_option maxHeartbeats 1000000 in
theorem rright_any (K T G : ByteArray) (hK : K.size ≤ 300) (hTs : T.size ≤ 300) (hG : G.size ≤ 300) (w : World) :
    Calls Tryd.prog 18 #[.string K, .string T, .string G] w fun e w' => e = .returned (.bool (rightB K T G)) ∧ Below w.heap.size w w' := by
  by_cases h8 : 8 ≤ G.size
  · by_cases h32 : G.size ≤ 32
    · obtain ⟨F, hF⟩ : ∃ F, fst K T G.size = F := ⟨_, rfl⟩
      obtain ⟨bb, hbb⟩ : ∃ bb : Bool, (F.toList == G.toList) = bb := ⟨_, rfl⟩
      have HB : Shut (bb = rightB K T G) := ⟨by
        rw [← hbb]
        unfold rightB
        rw [hF, Bool.eq_iff_iff, beq_iff_eq, decide_eq_true_iff]
        constructor
        · intro e
          refine ⟨h8, ?_⟩
          apply ByteArray.ext; apply Array.toList_inj.1
          rw [← Lib.toList_data, ← Lib.toList_data]; exact e.symm
        · rintro ⟨_, e⟩
          rw [← e]⟩
      have HF : Shut (fst K T G.size = F) := ⟨hF⟩
      clear hF
      go_enter Tryd.func18, Tryd.ntmps18
      go_wp2_with fail
      refine (rshort_any K T G.size hK hTs w).mono ?_; rw [HF.out]; rintro e w1 ⟨rfl, hb1⟩
      go_wp2_with fail
      go_ret
      exact ⟨ret_bool HB.out, hb1⟩
    · have HB : Shut (false = rightB K T G) := ⟨(right_long K T G (by omega)).symm⟩
      go_enter Tryd.func18, Tryd.ntmps18
      go_wp2_with fail
      go_ret
      exact ⟨ret_bool HB.out, Below.refl _ _⟩
  · have HB : Shut (false = rightB K T G) := ⟨by unfold rightB; simp [h8]⟩
    go_enter Tryd.func18, Tryd.ntmps18
    go_wp2_with fail
    go_ret
    exact ⟨ret_bool HB.out, Below.refl _ _⟩
end Go.Proofs.YtfbajkojjlgbdaaDoor
