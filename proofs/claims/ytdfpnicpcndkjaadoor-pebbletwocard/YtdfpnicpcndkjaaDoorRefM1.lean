/- What the reference's Tag answers: the tag. -/
import Derived.Test.YtdfpnicpcndkjaaDoorApp8
namespace Go.Proofs.YtdfpnicpcndkjaaDoor
set_option maxRecDepth 10000
open Go.RowKit
set_option linter.unusedVariables false

theorem kf24 (vs : Array Value) (w : World) : (callFunc 24 vs).run Tryd.prog w = .ok (.enter 24 vs) w := by go_simp
theorem rsum_d (T : ByteArray) (hT : T.size ≤ 100000) (D : List UInt8) (hD : sum T.data.toList = D) (w : World) :
    Calls Tryd.prog 24 #[.string T] w fun e w' => e = .returned (.agg (bc D).toArray) ∧ Below w.heap.size w w' := by
  have h := rsum_any T hT w
  rw [← sum_dig, hD] at h
  exact h
theorem blkK_at (k : List UInt8) (C : ByteArray) (hC : C.data.toList = cutK k) (j : Nat) (h : j < C.size) : (blkK k).getD j 0 = C[j] := by
  have hs := Lib.size_eq C
  have e : (cutK k)[j]? = some C[j] := by
    rw [← hC]
    have : C[j] = C.data[j]'h := rfl
    rw [this]
    simp
  rw [blkK, List.getD_eq_getElem?_getD, List.getElem?_append_left (by rw [← hC]; omega), e]
  rfl
theorem blkK_zero (k : List UInt8) (C : ByteArray) (hC : C.data.toList = cutK k) (j : Nat) (h : ¬ j < C.size) : (blkK k).getD j 0 = 0 := by
  have hs := Lib.size_eq C
  rw [blkK, List.getD_eq_getElem?_getD, List.getElem?_append_right (by rw [← hC]; omega)]
  rw [List.getElem?_replicate]
  split <;> rfl
theorem bytes_append (a b : ByteArray) : (a ++ b).data.toList = a.data.toList ++ b.data.toList := by
  rw [ByteArray.data_append, Array.toList_append]
set_option maxRecDepth 100000 in
set_option maxHeartbeats 1600000 in
theorem rtag_any (K T : ByteArray) (hK : K.size ≤ 300) (hTs : T.size ≤ 300) (w : World) :
    Calls Tryd.prog 27 #[.string K, .string T] w fun e w' => e = .returned (.agg (bc (tag K.data.toList T.data.toList)).toArray) ∧ Below w.heap.size w w' := by
  have hKz := Lib.size_eq K
  have hTz := Lib.size_eq T
  obtain ⟨B, hB⟩ : ∃ B, blkK K.data.toList = B := ⟨_, rfl⟩
  have HB : Shut (B.length = 64) := ⟨by rw [← hB]; exact blkK_length _⟩
  have HIL : Shut ((xk 54 B).length = 64) := ⟨by rw [xk_length]; exact HB.out⟩
  have HOL : Shut ((xk 92 B).length = 64) := ⟨by rw [xk_length]; exact HB.out⟩
  obtain ⟨I, hI⟩ : ∃ I : ByteArray, (⟨(xk 54 B).toArray⟩ : ByteArray) = I := ⟨_, rfl⟩
  obtain ⟨O, hO⟩ : ∃ O : ByteArray, (⟨(xk 92 B).toArray⟩ : ByteArray) = O := ⟨_, rfl⟩
  have HI : Shut ((⟨(xk 54 B).toArray⟩ : ByteArray) = I) := ⟨hI⟩
  have HO : Shut ((⟨(xk 92 B).toArray⟩ : ByteArray) = O) := ⟨hO⟩
  have HID : Shut (I.data.toList = xk 54 B) := ⟨by rw [← hI]⟩
  have HOD : Shut (O.data.toList = xk 92 B) := ⟨by rw [← hO]⟩
  have HIS : Shut (I.size = 64) := ⟨by rw [Lib.size_eq, HID.out]; exact HIL.out⟩
  have HOS : Shut (O.size = 64) := ⟨by rw [Lib.size_eq, HOD.out]; exact HOL.out⟩
  obtain ⟨J, hJ⟩ : ∃ J, I ++ T = J := ⟨_, rfl⟩
  have HIJ : Shut (I ++ T = J) := ⟨hJ⟩
  have HJS : Shut (J.size ≤ 100000) := ⟨by rw [← hJ, ByteArray.size_append, HIS.out]; omega⟩
  obtain ⟨D, hD⟩ : ∃ D, sum J.data.toList = D := ⟨_, rfl⟩
  have HJD : Shut (sum J.data.toList = D) := ⟨hD⟩
  have HDL : Shut (D.length = 32) := ⟨by rw [← hD]; exact sum_length _⟩
  have HDS : Shut ((⟨D.toArray⟩ : ByteArray).size = 32) := ⟨by show D.toArray.size = 32; rw [List.size_toArray]; exact HDL.out⟩
  obtain ⟨L, hL⟩ : ∃ L, O ++ (⟨D.toArray⟩ : ByteArray) = L := ⟨_, rfl⟩
  have HLO : Shut (O ++ (⟨D.toArray⟩ : ByteArray) = L) := ⟨hL⟩
  have HLS : Shut (L.size ≤ 100000) := ⟨by rw [← hL, ByteArray.size_append, HOS.out, HDS.out]; decide⟩
  obtain ⟨R, hR⟩ : ∃ R, tag K.data.toList T.data.toList = R := ⟨_, rfl⟩
  have HRL : Shut (R.length = 32) := ⟨by rw [← hR]; exact tag_length _ _⟩
  have HLR : Shut (sum L.data.toList = R) := ⟨by rw [← hL, bytes_append, HOD.out, show (⟨D.toArray⟩ : ByteArray).data.toList = D from rfl, ← hD, ← hJ, bytes_append, HID.out, ← hB, ← hR]; rfl⟩
  rw [hR]
  by_cases h64 : 64 < K.size
  · obtain ⟨E, hE⟩ : ∃ E, sum K.data.toList = E := ⟨_, rfl⟩
    have HE : Shut (sum K.data.toList = E) := ⟨hE⟩
    have HEL : Shut (E.length = 32) := ⟨by rw [← hE]; exact sum_length _⟩
    obtain ⟨C, hC⟩ : ∃ C : ByteArray, (⟨E.toArray⟩ : ByteArray) = C := ⟨_, rfl⟩
    have HCE : Shut ((⟨E.toArray⟩ : ByteArray) = C) := ⟨hC⟩
    have hCd : C.data.toList = cutK K.data.toList := by rw [← hC, cutK, if_pos (by omega), hE]
    have hCs : C.size ≤ 64 := by rw [Lib.size_eq, hCd]; exact cutK_length _
    have HBC : Shut (∀ j (h : j < C.size), B.getD j 0 = C[j]) := ⟨fun j h => by rw [← hB]; exact blkK_at _ C hCd j h⟩
    have HB0 : Shut (∀ j, ¬ j < C.size → B.getD j 0 = 0) := ⟨fun j h => by rw [← hB]; exact blkK_zero _ C hCd j h⟩
    clear hB hI hO hJ hD hL hR hE hC hCd hKz hTz
    go_enter Tryd.func27, Tryd.ntmps27
    go_wp2_with (first
      | ((with_reducible refine at_alloc 23 ?_); refine L_alloc 23 _ zero23 ?_; intro w1 h1 c0))
    have n1 : w.heap.size < w1.heap.size := c0.lt
    have hB1 : Below w.heap.size w w1 := h1.below (Below.refl _ _) (Nat.le_refl _)
    clear h1
    refine (rsum_d K (by omega) E HE.out w1).mono ?_; rintro e w2 ⟨rfl, hb2⟩
    have n2 := hb2.size
    have hB2 : Below w.heap.size w w2 := hB1.trans (hb2.mono (by omega))
    replace c0 := c0.below hb2 (by omega)
    clear hb2 hB1
    go_wp2_with (first
      | ((with_reducible refine at_alloc 23 ?_); refine L_alloc 23 _ zero23 ?_; intro w3 h3 b3)
      | ((with_reducible refine at_store 23 ?_); refine L_store_all 23 _ _ w2.heap.size (bc E) _ 23 rfl rfl b3 (zk23 E HEL.out) (by rw [bc_length, HEL.out]; rfl) (bc_one _) ?_; intro wk h4 b4; have hsl := run_slice_all wk w2.heap.size 0 32 23 5 Tryd.underlying23 Tryd.sizeOf5; have hcv := blk_all E HEL.out b4; rw [HCE.out] at hcv)
      | ((with_reducible refine stop_list 18 ?_); intro X hX))
    refine hX.out ?_
    clear hX X hsl hcv
    replace c0 := h4.blk (h3.blk c0 (by omega)) (by omega)
    have hBc : Below w.heap.size w wk := h4.below (h3.below hB2 (by omega)) (by omega)
    clear h3 h4 b3 b4 hB2
    have nc0 : w.heap.size < wk.heap.size := c0.lt
    go_wp2_with (first
      | ((with_reducible refine at_buildD 18 0 ?_); refine L_b0 ?_; intro wi hwi bi)
      | ((with_reducible refine at_buildD 19 0 ?_); refine L_b0 ?_; intro wo hwo bo))
    have ni := bi.lt
    have no := bo.lt
    replace bi := hwo.blk bi (by omega)
    replace c0 := hwo.blk (hwi.blk c0 (by omega)) (by omega)
    have hBo : Below w.heap.size w wo := hwo.below (hwi.below hBc (by omega)) (by omega)
    clear hwo hwi hBc
    go_loopw [6, 7, 8] (fun v6 v7 v8 wr => ∃ (j gi go ci co : Nat) (si so : List Value), j ≤ 64 ∧ v8 = .int .i64 j ∧ v6 = .slice (some ⟨gi, 0, none⟩) j ci ∧ v7 = .slice (some ⟨go, 0, none⟩) j co ∧ gi ≠ go ∧ w.heap.size < gi ∧ w.heap.size < go ∧
        si.length + j = ci ∧ so.length + j = co ∧ ci ≤ 9223372036854775807 ∧ co ≤ 9223372036854775807 ∧ Blk wr gi (bc (xk 54 (B.take j)) ++ si) 5 ∧ Blk wr go (bc (xk 92 (B.take j)) ++ so) 5 ∧ Blk wr w.heap.size (bc (List.replicate 32 0)) 23 ∧ Below w.heap.size w wr) (fun _ _ v8 _ => 64 - (intOf v8).toNat)
    case atStart => exact ⟨0, wk.heap.size, wi.heap.size, 0, 0, [], [], by omega, rfl, rfl, rfl, by omega, by omega, by omega, rfl, rfl, by omega, by omega, by simpa [xk, bc] using bi, by simpa [xk, bc] using bo, c0, hBo⟩
    case round =>
      clear bi bo c0 hBo
      obtain ⟨j, gi, go, ci, co, si, so, hj, rfl, rfl, rfl, hne, hgi, hgo, hsi, hso, hci, hco, bi, bo, c0, hbw⟩ := hrel
      have ngi := bi.lt
      have ngo := bo.lt
      by_cases hlt : j < 64
      · obtain ⟨x, hx⟩ : ∃ x, B.getD j 0 = x := ⟨_, rfl⟩
        have HS1 : Shut (xk 54 (B.take (j + 1)) = xk 54 (B.take j) ++ [x ^^^ 54]) := ⟨xk_snoc 54 B j (by have := HB.out; omega) x hx⟩
        have HS2 : Shut (xk 92 (B.take (j + 1)) = xk 92 (B.take j) ++ [x ^^^ 92]) := ⟨xk_snoc 92 B j (by have := HB.out; omega) x hx⟩
        have HJ1 : Shut ((xk 54 (B.take j)).length = j) := ⟨xk_len 54 B j (by have := HB.out; omega)⟩
        have HJ2 : Shut ((xk 92 (B.take j)).length = j) := ⟨xk_len 92 B j (by have := HB.out; omega)⟩
        have hx54 := xor8 x 54
        have hx92 := xor8 x 92
        rw [show ((54 : UInt8).toNat : Int) = 54 from rfl] at hx54
        rw [show ((92 : UInt8).toNat : Int) = 92 from rfl] at hx92
        by_cases hjc : j < C.size
        · have hcx : C[j] = x := by rw [← HBC.out j hjc, hx]
          rw [← hcx] at hx54 hx92
          have hxl := x.toNat_lt
          have hxl1 := (x ^^^ 54).toNat_lt
          have hxl2 := (x ^^^ 92).toNat_lt
          rw [hcx] at hx54 hx92
          have hcx2 : (C[j].toNat : Int) = (x.toNat : Int) := by rw [hcx]
          clear hx hcx
          go_wp2_with (first
            | ((with_reducible refine at_buildD 34 1 ?_); refine L_b1 _ (x ^^^ 54) rfl ?_; intro wa ha ba)
            | ((with_reducible refine stop_list 35 ?_); intro X hX))
          refine hX.out ?_
          clear hX X
          replace bi := ha.blk bi (by omega)
          replace bo := ha.blk bo (by omega)
          replace c0 := ha.blk c0 (by omega)
          have hBa : Below w.heap.size w wa := ha.below hbw (by omega)
          have na : wr.heap.size < wa.heap.size := ba.lt
          refine L_app8 _ _ gi ci j wr.heap.size 1 (xk 54 (B.take j)) si (x ^^^ 54) rfl rfl HJ1.out bi hsi hci (ba.cell 0 _ rfl) (by omega) ?_
          intro gi' ci' si' wb hgi' hsi' hci' bi' hgb
          replace bo := hgb.blk bo (by omega)
          replace c0 := hgb.blk c0 (by omega)
          have hBb : Below w.heap.size w wb := hgb.below hBa (by omega) (by omega)
          have nb := hgb.size
          have ngi := bi'.lt
          have ngo := bo.lt
          clear hgb ha ba hBa bi
          go_wp2_with (first
            | ((with_reducible refine at_buildD 39 1 ?_); refine L_b1 _ (x ^^^ 92) rfl ?_; intro wc hc' bc')
            | ((with_reducible refine stop_list 40 ?_); intro X hX))
          refine hX.out ?_
          clear hX X
          replace bi' := hc'.blk bi' (by omega)
          replace bo := hc'.blk bo (by omega)
          replace c0 := hc'.blk c0 (by omega)
          have hBc : Below w.heap.size w wc := hc'.below hBb (by omega)
          have nc : wb.heap.size < wc.heap.size := bc'.lt
          refine L_app8 _ _ go co j wb.heap.size 1 (xk 92 (B.take j)) so (x ^^^ 92) rfl rfl HJ2.out bo hso hco (bc'.cell 0 _ rfl) (by omega) ?_
          intro go' co' so' wd hgo' hso' hco' bo' hgd
          replace bi' := hgd.blk bi' (by omega)
          replace c0 := hgd.blk c0 (by omega)
          have hBd : Below w.heap.size w wd := hgd.below hBc (by omega) (by omega)
          rw [← HS1.out] at bi'
          rw [← HS2.out] at bo'
          go_wp2_with fail
          exact ⟨⟨j + 1, gi', go', ci', co', si', so', by omega, by go_num, rfl, rfl, by omega, by omega, by omega, hsi', hso', hci', hco', bi', bo', c0, hBd⟩, by simp [intOf]; omega⟩
        · have hx0 : x = 0 := by rw [← hx]; exact HB0.out j hjc
          subst hx0
          rw [show (((0 : UInt8).toNat : Nat) : Int) = 0 from rfl] at hx54 hx92
          have hxl1 := ((0 : UInt8) ^^^ 54).toNat_lt
          have hxl2 := ((0 : UInt8) ^^^ 92).toNat_lt
          clear hx
          go_wp2_with (first
            | ((with_reducible refine at_buildD 34 1 ?_); refine L_b1 _ ((0 : UInt8) ^^^ 54) rfl ?_; intro wa ha ba)
            | ((with_reducible refine stop_list 35 ?_); intro X hX))
          refine hX.out ?_
          clear hX X
          replace bi := ha.blk bi (by omega)
          replace bo := ha.blk bo (by omega)
          replace c0 := ha.blk c0 (by omega)
          have hBa : Below w.heap.size w wa := ha.below hbw (by omega)
          have na : wr.heap.size < wa.heap.size := ba.lt
          refine L_app8 _ _ gi ci j wr.heap.size 1 (xk 54 (B.take j)) si ((0 : UInt8) ^^^ 54) rfl rfl HJ1.out bi hsi hci (ba.cell 0 _ rfl) (by omega) ?_
          intro gi' ci' si' wb hgi' hsi' hci' bi' hgb
          replace bo := hgb.blk bo (by omega)
          replace c0 := hgb.blk c0 (by omega)
          have hBb : Below w.heap.size w wb := hgb.below hBa (by omega) (by omega)
          have nb := hgb.size
          have ngi := bi'.lt
          have ngo := bo.lt
          clear hgb ha ba hBa bi
          go_wp2_with (first
            | ((with_reducible refine at_buildD 39 1 ?_); refine L_b1 _ ((0 : UInt8) ^^^ 92) rfl ?_; intro wc hc' bc')
            | ((with_reducible refine stop_list 40 ?_); intro X hX))
          refine hX.out ?_
          clear hX X
          replace bi' := hc'.blk bi' (by omega)
          replace bo := hc'.blk bo (by omega)
          replace c0 := hc'.blk c0 (by omega)
          have hBc : Below w.heap.size w wc := hc'.below hBb (by omega)
          have nc : wb.heap.size < wc.heap.size := bc'.lt
          refine L_app8 _ _ go co j wb.heap.size 1 (xk 92 (B.take j)) so ((0 : UInt8) ^^^ 92) rfl rfl HJ2.out bo hso hco (bc'.cell 0 _ rfl) (by omega) ?_
          intro go' co' so' wd hgo' hso' hco' bo' hgd
          replace bi' := hgd.blk bi' (by omega)
          replace c0 := hgd.blk c0 (by omega)
          have hBd : Below w.heap.size w wd := hgd.below hBc (by omega) (by omega)
          rw [← HS1.out] at bi'
          rw [← HS2.out] at bo'
          go_wp2_with fail
          exact ⟨⟨j + 1, gi', go', ci', co', si', so', by omega, by go_num, rfl, rfl, by omega, by omega, by omega, hsi', hso', hci', hco', bi', bo', c0, hBd⟩, by simp [intOf]; omega⟩
      · obtain rfl : j = 64 := by omega
        rw [List.take_of_length_le (by rw [HB.out]; exact Nat.le_refl _)] at bi bo
        have hcv := blk_string (o := 0) (n := 64) (cap := ci) bi (xk 54 B) HIL.out (by rw [List.drop_zero, List.take_left' (by rw [bc_length]; exact HIL.out)])
        rw [HI.out] at hcv
        have hIs := HIS.out
        have hij := HIJ.out
        go_wp2_with fail
        refine (rsum_d J HJS.out D HJD.out wr).mono ?_; rintro e wd ⟨rfl, hbd⟩
        have hBd : Below w.heap.size w wd := hbw.trans (hbd.mono (by omega))
        have nd := hbd.size
        replace bo := bo.below hbd (by omega)
        replace c0 := c0.below hbd (by omega)
        clear hbd hcv bi hbw hij hIs
        go_wp2_with (first
          | ((with_reducible refine at_alloc 23 ?_); refine L_alloc 23 _ zero23 ?_; intro we he be)
          | ((with_reducible refine at_store 23 ?_); refine L_store_all 23 _ _ wd.heap.size (bc D) _ 23 rfl rfl be (zk23 D HDL.out) (by rw [bc_length, HDL.out]; rfl) (bc_one _) ?_; intro wf hf cf)
          | ((with_reducible refine stop_region 15 ?_); intro Z hZ))
        refine hZ.out ?_
        clear hZ
        have hBf : Below w.heap.size w wf := hf.below (he.below hBd (by omega)) (by omega)
        replace bo := hf.blk (he.blk bo (by omega)) (by omega)
        replace c0 := hf.blk (he.blk c0 (by omega)) (by omega)
        have nf := cf.lt
        clear he hf be hBd
        refine wp_region_inv (by kernel_rfl) (by kernel_rfl) (fun t v wx => Below (w.heap.size) wf wx ∧ wf.heap.size ≤ wx.heap.size ∧ Blk wx (go) (bc (xk 92 B) ++ so) 5 ∧ Blk wx (wd.heap.size) (bc D) 23 ∧ (t 0 = true → v 0 = .slice (some ⟨go, 0, none⟩) 64 co) ∧ (t 1 = true → v 1 = .string O) ∧ (t 2 = true → v 2 = .slice (some ⟨wd.heap.size, 0, none⟩) 32 32) ∧ (t 3 = true → v 3 = .string ⟨D.toArray⟩) ∧ (t 4 = true → v 4 = .string L) ∧ (t 5 = true → v 5 = .agg (bc R).toArray) ∧ ((t 6 = false → Blk wx (w.heap.size) (bc (List.replicate 32 0)) 23) ∧ (t 6 = true → Blk wx (w.heap.size) (bc R) 23) ∧ (t 6 = true → v 6 = undef))) ?_ ?_ ?_
        · exact ⟨(Below.refl _ _).drew, Nat.le_refl _, bo, cf, (fun h => by cases h), (fun h => by cases h), (fun h => by cases h), (fun h => by cases h), (fun h => by cases h), (fun h => by cases h), ⟨fun _ => c0, (fun h => by cases h), (fun h => by cases h)⟩⟩
        · simp only [full, Act.put, List.setIfInBounds_toArray, List.set_cons_succ, List.set_cons_zero, Nat.zero_add, Nat.reduceAdd]
          intro i o ho t v wx hS hti hall
          obtain ⟨hB, hsz, q0, q1, k0, k1, k2, k3, k4, k5, k6⟩ := hS
          have hnw : w.heap.size ≤ wx.heap.size := Nat.le_trans (by omega) hsz
          rcases i with _ | _ | _ | _ | _ | _ | _ | i
          · obtain rfl := Option.some.inj ho
            refine g_move _ _ rfl ?_
            exact ⟨hB, hsz, q0, q1, newE rfl, keepE (by decide) k1, keepE (by decide) k2, keepE (by decide) k3, keepE (by decide) k4, keepE (by decide) k5, k6⟩
          · obtain rfl := Option.some.inj ho
            have d0 := k0 (hall ⟨0, .data⟩ (by simp) rfl)
            have hcv := blk_string (o := 0) (n := 64) (cap := co) q0 (xk 92 B) HOL.out (by rw [List.drop_zero, List.take_left' (by rw [bc_length]; exact HOL.out)])
            rw [HO.out] at hcv
            refine g_val (.string O) wx (by rw [d0]; go_simp) ?_
            exact ⟨hB, hsz, q0, q1, keepE (by decide) k0, newE rfl, keepE (by decide) k2, keepE (by decide) k3, keepE (by decide) k4, keepE (by decide) k5, k6⟩
          · obtain rfl := Option.some.inj ho
            have hsl := run_slice_all wx wd.heap.size 0 32 23 5 Tryd.underlying23 Tryd.sizeOf5
            refine g_val (.slice (some ⟨wd.heap.size, 0, none⟩) 32 32) wx (by go_simp) ?_
            exact ⟨hB, hsz, q0, q1, keepE (by decide) k0, keepE (by decide) k1, newE rfl, keepE (by decide) k3, keepE (by decide) k4, keepE (by decide) k5, k6⟩
          · obtain rfl := Option.some.inj ho
            have d2 := k2 (hall ⟨2, .data⟩ (by simp) rfl)
            have hcv := blk_all D HDL.out q1
            refine g_val (.string ⟨D.toArray⟩) wx (by rw [d2]; go_simp) ?_
            exact ⟨hB, hsz, q0, q1, keepE (by decide) k0, keepE (by decide) k1, keepE (by decide) k2, newE rfl, keepE (by decide) k4, keepE (by decide) k5, k6⟩
          · obtain rfl := Option.some.inj ho
            have d1 := k1 (hall ⟨1, .data⟩ (by simp) rfl)
            have d3 := k3 (hall ⟨3, .data⟩ (by simp) rfl)
            refine g_sadd 9 _ _ O ⟨D.toArray⟩ L (show v 1 = _ from d1) (show v 3 = _ from d3) HLO.out (by have := HOS.out; have := HDS.out; omega) ?_
            exact ⟨hB, hsz, q0, q1, keepE (by decide) k0, keepE (by decide) k1, keepE (by decide) k2, keepE (by decide) k3, newE rfl, keepE (by decide) k5, k6⟩
          · obtain rfl := Option.some.inj ho
            have d4 := k4 (hall ⟨4, .data⟩ (by simp) rfl)
            refine g_call 24 _ _ [.string L] (kf24 _ _) (by show [v 4] = _; rw [d4]; (try rfl)) ((rsum_d L HLS.out R HLR.out wx).mono ?_)
            rintro e w' ⟨rfl, hb⟩
            exact ⟨_, rfl, hB.trans (hb.mono hnw), Nat.le_trans hsz hb.size, q0.below hb q0.lt, q1.below hb q1.lt, keepE (by decide) k0, keepE (by decide) k1, keepE (by decide) k2, keepE (by decide) k3, keepE (by decide) k4, newE rfl, ⟨fun h7 => (k6.1 h7).below hb (k6.1 h7).lt, fun h7 => (k6.2.1 h7).below hb (k6.2.1 h7).lt, k6.2.2⟩⟩
          · obtain rfl := Option.some.inj ho
            have d5 := k5 (hall ⟨5, .data⟩ (by simp) rfl)
            refine g_store_all 23 _ _ w.heap.size (bc R) _ 23 rfl (show v 5 = _ from d5) (k6.1 hti) (zk23 R HRL.out) (by rw [bc_length, HRL.out]; rfl) (bc_one _) (fun w' h1 h2 => ?_)
            exact ⟨h1.below hB (by omega), Nat.le_trans hsz h1.size, h1.blk q0 (by omega), h1.blk q1 (by omega), keepE (by decide) k0, keepE (by decide) k1, keepE (by decide) k2, keepE (by decide) k3, keepE (by decide) k4, keepE (by decide) k5, ⟨(fun h7 => by have h8 := setB_self t 6; rw [h7] at h8; cases h8), fun _ => h2, newE rfl⟩⟩
          · simp at ho
        · simp only [full, Act.put, List.setIfInBounds_toArray, List.set_cons_succ, List.set_cons_zero, Nat.zero_add, Nat.reduceAdd]
          intro t v wz hS ht
          obtain ⟨hB, hsz, q0, q1, k0, k1, k2, k3, k4, k5, k6⟩ := hS
          have f6 := k6.2.1 (ht 6 (by decide))
          clear ht k0 k1 k2 k3 k4 k5 k6  
          generalize v 0 = x0
          generalize v 1 = x1
          generalize v 2 = x2
          generalize v 3 = x3
          generalize v 4 = x4
          generalize v 5 = x5
          generalize v 6 = x6
          have hBz : Below w.heap.size w wz := hBf.trans (hB.mono (by omega))
          go_wp2_with fail
          (try simp only [Exit.inBlock, Exit.then])
          exact bodyPost_ret (results_blk rfl w.heap.size (bc R) _ rfl f6 Tryd.underlying23 rfl (zk23 R HRL.out)) rfl ⟨rfl, hBz⟩
  · have hCd : K.data.toList = cutK K.data.toList := by rw [cutK, if_neg (by omega)]
    have HBC : Shut (∀ j (h : j < K.size), B.getD j 0 = K[j]) := ⟨fun j h => by rw [← hB]; exact blkK_at _ K hCd j h⟩
    have HB0 : Shut (∀ j, ¬ j < K.size → B.getD j 0 = 0) := ⟨fun j h => by rw [← hB]; exact blkK_zero _ K hCd j h⟩
    clear hB hI hO hJ hD hL hR hCd hKz hTz
    go_enter Tryd.func27, Tryd.ntmps27
    go_wp2_with (first
      | ((with_reducible refine at_alloc 23 ?_); refine L_alloc 23 _ zero23 ?_; intro wk h1 c0)
      | ((with_reducible refine stop_list 18 ?_); intro X hX))
    refine hX.out ?_
    clear hX X
    have hBc : Below w.heap.size w wk := h1.below (Below.refl _ _) (Nat.le_refl _)
    clear h1
    have nc0 : w.heap.size < wk.heap.size := c0.lt
    go_wp2_with (first
      | ((with_reducible refine at_buildD 18 0 ?_); refine L_b0 ?_; intro wi hwi bi)
      | ((with_reducible refine at_buildD 19 0 ?_); refine L_b0 ?_; intro wo hwo bo))
    have ni := bi.lt
    have no := bo.lt
    replace bi := hwo.blk bi (by omega)
    replace c0 := hwo.blk (hwi.blk c0 (by omega)) (by omega)
    have hBo : Below w.heap.size w wo := hwo.below (hwi.below hBc (by omega)) (by omega)
    clear hwo hwi hBc
    go_loopw [6, 7, 8] (fun v6 v7 v8 wr => ∃ (j gi go ci co : Nat) (si so : List Value), j ≤ 64 ∧ v8 = .int .i64 j ∧ v6 = .slice (some ⟨gi, 0, none⟩) j ci ∧ v7 = .slice (some ⟨go, 0, none⟩) j co ∧ gi ≠ go ∧ w.heap.size < gi ∧ w.heap.size < go ∧
        si.length + j = ci ∧ so.length + j = co ∧ ci ≤ 9223372036854775807 ∧ co ≤ 9223372036854775807 ∧ Blk wr gi (bc (xk 54 (B.take j)) ++ si) 5 ∧ Blk wr go (bc (xk 92 (B.take j)) ++ so) 5 ∧ Blk wr w.heap.size (bc (List.replicate 32 0)) 23 ∧ Below w.heap.size w wr) (fun _ _ v8 _ => 64 - (intOf v8).toNat)
    case atStart => exact ⟨0, wk.heap.size, wi.heap.size, 0, 0, [], [], by omega, rfl, rfl, rfl, by omega, by omega, by omega, rfl, rfl, by omega, by omega, by simpa [xk, bc] using bi, by simpa [xk, bc] using bo, c0, hBo⟩
    case round =>
      clear bi bo c0 hBo
      obtain ⟨j, gi, go, ci, co, si, so, hj, rfl, rfl, rfl, hne, hgi, hgo, hsi, hso, hci, hco, bi, bo, c0, hbw⟩ := hrel
      have ngi := bi.lt
      have ngo := bo.lt
      by_cases hlt : j < 64
      · obtain ⟨x, hx⟩ : ∃ x, B.getD j 0 = x := ⟨_, rfl⟩
        have HS1 : Shut (xk 54 (B.take (j + 1)) = xk 54 (B.take j) ++ [x ^^^ 54]) := ⟨xk_snoc 54 B j (by have := HB.out; omega) x hx⟩
        have HS2 : Shut (xk 92 (B.take (j + 1)) = xk 92 (B.take j) ++ [x ^^^ 92]) := ⟨xk_snoc 92 B j (by have := HB.out; omega) x hx⟩
        have HJ1 : Shut ((xk 54 (B.take j)).length = j) := ⟨xk_len 54 B j (by have := HB.out; omega)⟩
        have HJ2 : Shut ((xk 92 (B.take j)).length = j) := ⟨xk_len 92 B j (by have := HB.out; omega)⟩
        have hx54 := xor8 x 54
        have hx92 := xor8 x 92
        rw [show ((54 : UInt8).toNat : Int) = 54 from rfl] at hx54
        rw [show ((92 : UInt8).toNat : Int) = 92 from rfl] at hx92
        by_cases hjc : j < K.size
        · have hcx : K[j] = x := by rw [← HBC.out j hjc, hx]
          rw [← hcx] at hx54 hx92
          have hxl := x.toNat_lt
          have hxl1 := (x ^^^ 54).toNat_lt
          have hxl2 := (x ^^^ 92).toNat_lt
          rw [hcx] at hx54 hx92
          have hcx2 : (K[j].toNat : Int) = (x.toNat : Int) := by rw [hcx]
          clear hx hcx
          go_wp2_with (first
            | ((with_reducible refine at_buildD 34 1 ?_); refine L_b1 _ (x ^^^ 54) rfl ?_; intro wa ha ba)
            | ((with_reducible refine stop_list 35 ?_); intro X hX))
          refine hX.out ?_
          clear hX X
          replace bi := ha.blk bi (by omega)
          replace bo := ha.blk bo (by omega)
          replace c0 := ha.blk c0 (by omega)
          have hBa : Below w.heap.size w wa := ha.below hbw (by omega)
          have na : wr.heap.size < wa.heap.size := ba.lt
          refine L_app8 _ _ gi ci j wr.heap.size 1 (xk 54 (B.take j)) si (x ^^^ 54) rfl rfl HJ1.out bi hsi hci (ba.cell 0 _ rfl) (by omega) ?_
          intro gi' ci' si' wb hgi' hsi' hci' bi' hgb
          replace bo := hgb.blk bo (by omega)
          replace c0 := hgb.blk c0 (by omega)
          have hBb : Below w.heap.size w wb := hgb.below hBa (by omega) (by omega)
          have nb := hgb.size
          have ngi := bi'.lt
          have ngo := bo.lt
          clear hgb ha ba hBa bi
          go_wp2_with (first
            | ((with_reducible refine at_buildD 39 1 ?_); refine L_b1 _ (x ^^^ 92) rfl ?_; intro wc hc' bc')
            | ((with_reducible refine stop_list 40 ?_); intro X hX))
          refine hX.out ?_
          clear hX X
          replace bi' := hc'.blk bi' (by omega)
          replace bo := hc'.blk bo (by omega)
          replace c0 := hc'.blk c0 (by omega)
          have hBc : Below w.heap.size w wc := hc'.below hBb (by omega)
          have nc : wb.heap.size < wc.heap.size := bc'.lt
          refine L_app8 _ _ go co j wb.heap.size 1 (xk 92 (B.take j)) so (x ^^^ 92) rfl rfl HJ2.out bo hso hco (bc'.cell 0 _ rfl) (by omega) ?_
          intro go' co' so' wd hgo' hso' hco' bo' hgd
          replace bi' := hgd.blk bi' (by omega)
          replace c0 := hgd.blk c0 (by omega)
          have hBd : Below w.heap.size w wd := hgd.below hBc (by omega) (by omega)
          rw [← HS1.out] at bi'
          rw [← HS2.out] at bo'
          go_wp2_with fail
          exact ⟨⟨j + 1, gi', go', ci', co', si', so', by omega, by go_num, rfl, rfl, by omega, by omega, by omega, hsi', hso', hci', hco', bi', bo', c0, hBd⟩, by simp [intOf]; omega⟩
        · have hx0 : x = 0 := by rw [← hx]; exact HB0.out j hjc
          subst hx0
          rw [show (((0 : UInt8).toNat : Nat) : Int) = 0 from rfl] at hx54 hx92
          have hxl1 := ((0 : UInt8) ^^^ 54).toNat_lt
          have hxl2 := ((0 : UInt8) ^^^ 92).toNat_lt
          clear hx
          go_wp2_with (first
            | ((with_reducible refine at_buildD 34 1 ?_); refine L_b1 _ ((0 : UInt8) ^^^ 54) rfl ?_; intro wa ha ba)
            | ((with_reducible refine stop_list 35 ?_); intro X hX))
          refine hX.out ?_
          clear hX X
          replace bi := ha.blk bi (by omega)
          replace bo := ha.blk bo (by omega)
          replace c0 := ha.blk c0 (by omega)
          have hBa : Below w.heap.size w wa := ha.below hbw (by omega)
          have na : wr.heap.size < wa.heap.size := ba.lt
          refine L_app8 _ _ gi ci j wr.heap.size 1 (xk 54 (B.take j)) si ((0 : UInt8) ^^^ 54) rfl rfl HJ1.out bi hsi hci (ba.cell 0 _ rfl) (by omega) ?_
          intro gi' ci' si' wb hgi' hsi' hci' bi' hgb
          replace bo := hgb.blk bo (by omega)
          replace c0 := hgb.blk c0 (by omega)
          have hBb : Below w.heap.size w wb := hgb.below hBa (by omega) (by omega)
          have nb := hgb.size
          have ngi := bi'.lt
          have ngo := bo.lt
          clear hgb ha ba hBa bi
          go_wp2_with (first
            | ((with_reducible refine at_buildD 39 1 ?_); refine L_b1 _ ((0 : UInt8) ^^^ 92) rfl ?_; intro wc hc' bc')
            | ((with_reducible refine stop_list 40 ?_); intro X hX))
          refine hX.out ?_
          clear hX X
          replace bi' := hc'.blk bi' (by omega)
          replace bo := hc'.blk bo (by omega)
          replace c0 := hc'.blk c0 (by omega)
          have hBc : Below w.heap.size w wc := hc'.below hBb (by omega)
          have nc : wb.heap.size < wc.heap.size := bc'.lt
          refine L_app8 _ _ go co j wb.heap.size 1 (xk 92 (B.take j)) so ((0 : UInt8) ^^^ 92) rfl rfl HJ2.out bo hso hco (bc'.cell 0 _ rfl) (by omega) ?_
          intro go' co' so' wd hgo' hso' hco' bo' hgd
          replace bi' := hgd.blk bi' (by omega)
          replace c0 := hgd.blk c0 (by omega)
          have hBd : Below w.heap.size w wd := hgd.below hBc (by omega) (by omega)
          rw [← HS1.out] at bi'
          rw [← HS2.out] at bo'
          go_wp2_with fail
          exact ⟨⟨j + 1, gi', go', ci', co', si', so', by omega, by go_num, rfl, rfl, by omega, by omega, by omega, hsi', hso', hci', hco', bi', bo', c0, hBd⟩, by simp [intOf]; omega⟩
      · obtain rfl : j = 64 := by omega
        rw [List.take_of_length_le (by rw [HB.out]; exact Nat.le_refl _)] at bi bo
        have hcv := blk_string (o := 0) (n := 64) (cap := ci) bi (xk 54 B) HIL.out (by rw [List.drop_zero, List.take_left' (by rw [bc_length]; exact HIL.out)])
        rw [HI.out] at hcv
        have hIs := HIS.out
        have hij := HIJ.out
        go_wp2_with fail
        refine (rsum_d J HJS.out D HJD.out wr).mono ?_; rintro e wd ⟨rfl, hbd⟩
        have hBd : Below w.heap.size w wd := hbw.trans (hbd.mono (by omega))
        have nd := hbd.size
        replace bo := bo.below hbd (by omega)
        replace c0 := c0.below hbd (by omega)
        clear hbd hcv bi hbw hij hIs
        go_wp2_with (first
          | ((with_reducible refine at_alloc 23 ?_); refine L_alloc 23 _ zero23 ?_; intro we he be)
          | ((with_reducible refine at_store 23 ?_); refine L_store_all 23 _ _ wd.heap.size (bc D) _ 23 rfl rfl be (zk23 D HDL.out) (by rw [bc_length, HDL.out]; rfl) (bc_one _) ?_; intro wf hf cf)
          | ((with_reducible refine stop_region 15 ?_); intro Z hZ))
        refine hZ.out ?_
        clear hZ
        have hBf : Below w.heap.size w wf := hf.below (he.below hBd (by omega)) (by omega)
        replace bo := hf.blk (he.blk bo (by omega)) (by omega)
        replace c0 := hf.blk (he.blk c0 (by omega)) (by omega)
        have nf := cf.lt
        clear he hf be hBd
        refine wp_region_inv (by kernel_rfl) (by kernel_rfl) (fun t v wx => Below (w.heap.size) wf wx ∧ wf.heap.size ≤ wx.heap.size ∧ Blk wx (go) (bc (xk 92 B) ++ so) 5 ∧ Blk wx (wd.heap.size) (bc D) 23 ∧ (t 0 = true → v 0 = .slice (some ⟨go, 0, none⟩) 64 co) ∧ (t 1 = true → v 1 = .string O) ∧ (t 2 = true → v 2 = .slice (some ⟨wd.heap.size, 0, none⟩) 32 32) ∧ (t 3 = true → v 3 = .string ⟨D.toArray⟩) ∧ (t 4 = true → v 4 = .string L) ∧ (t 5 = true → v 5 = .agg (bc R).toArray) ∧ ((t 6 = false → Blk wx (w.heap.size) (bc (List.replicate 32 0)) 23) ∧ (t 6 = true → Blk wx (w.heap.size) (bc R) 23) ∧ (t 6 = true → v 6 = undef))) ?_ ?_ ?_
        · exact ⟨(Below.refl _ _).drew, Nat.le_refl _, bo, cf, (fun h => by cases h), (fun h => by cases h), (fun h => by cases h), (fun h => by cases h), (fun h => by cases h), (fun h => by cases h), ⟨fun _ => c0, (fun h => by cases h), (fun h => by cases h)⟩⟩
        · simp only [full, Act.put, List.setIfInBounds_toArray, List.set_cons_succ, List.set_cons_zero, Nat.zero_add, Nat.reduceAdd]
          intro i o ho t v wx hS hti hall
          obtain ⟨hB, hsz, q0, q1, k0, k1, k2, k3, k4, k5, k6⟩ := hS
          have hnw : w.heap.size ≤ wx.heap.size := Nat.le_trans (by omega) hsz
          rcases i with _ | _ | _ | _ | _ | _ | _ | i
          · obtain rfl := Option.some.inj ho
            refine g_move _ _ rfl ?_
            exact ⟨hB, hsz, q0, q1, newE rfl, keepE (by decide) k1, keepE (by decide) k2, keepE (by decide) k3, keepE (by decide) k4, keepE (by decide) k5, k6⟩
          · obtain rfl := Option.some.inj ho
            have d0 := k0 (hall ⟨0, .data⟩ (by simp) rfl)
            have hcv := blk_string (o := 0) (n := 64) (cap := co) q0 (xk 92 B) HOL.out (by rw [List.drop_zero, List.take_left' (by rw [bc_length]; exact HOL.out)])
            rw [HO.out] at hcv
            refine g_val (.string O) wx (by rw [d0]; go_simp) ?_
            exact ⟨hB, hsz, q0, q1, keepE (by decide) k0, newE rfl, keepE (by decide) k2, keepE (by decide) k3, keepE (by decide) k4, keepE (by decide) k5, k6⟩
          · obtain rfl := Option.some.inj ho
            have hsl := run_slice_all wx wd.heap.size 0 32 23 5 Tryd.underlying23 Tryd.sizeOf5
            refine g_val (.slice (some ⟨wd.heap.size, 0, none⟩) 32 32) wx (by go_simp) ?_
            exact ⟨hB, hsz, q0, q1, keepE (by decide) k0, keepE (by decide) k1, newE rfl, keepE (by decide) k3, keepE (by decide) k4, keepE (by decide) k5, k6⟩
          · obtain rfl := Option.some.inj ho
            have d2 := k2 (hall ⟨2, .data⟩ (by simp) rfl)
            have hcv := blk_all D HDL.out q1
            refine g_val (.string ⟨D.toArray⟩) wx (by rw [d2]; go_simp) ?_
            exact ⟨hB, hsz, q0, q1, keepE (by decide) k0, keepE (by decide) k1, keepE (by decide) k2, newE rfl, keepE (by decide) k4, keepE (by decide) k5, k6⟩
          · obtain rfl := Option.some.inj ho
            have d1 := k1 (hall ⟨1, .data⟩ (by simp) rfl)
            have d3 := k3 (hall ⟨3, .data⟩ (by simp) rfl)
            refine g_sadd 9 _ _ O ⟨D.toArray⟩ L (show v 1 = _ from d1) (show v 3 = _ from d3) HLO.out (by have := HOS.out; have := HDS.out; omega) ?_
            exact ⟨hB, hsz, q0, q1, keepE (by decide) k0, keepE (by decide) k1, keepE (by decide) k2, keepE (by decide) k3, newE rfl, keepE (by decide) k5, k6⟩
          · obtain rfl := Option.some.inj ho
            have d4 := k4 (hall ⟨4, .data⟩ (by simp) rfl)
            refine g_call 24 _ _ [.string L] (kf24 _ _) (by show [v 4] = _; rw [d4]; (try rfl)) ((rsum_d L HLS.out R HLR.out wx).mono ?_)
            rintro e w' ⟨rfl, hb⟩
            exact ⟨_, rfl, hB.trans (hb.mono hnw), Nat.le_trans hsz hb.size, q0.below hb q0.lt, q1.below hb q1.lt, keepE (by decide) k0, keepE (by decide) k1, keepE (by decide) k2, keepE (by decide) k3, keepE (by decide) k4, newE rfl, ⟨fun h7 => (k6.1 h7).below hb (k6.1 h7).lt, fun h7 => (k6.2.1 h7).below hb (k6.2.1 h7).lt, k6.2.2⟩⟩
          · obtain rfl := Option.some.inj ho
            have d5 := k5 (hall ⟨5, .data⟩ (by simp) rfl)
            refine g_store_all 23 _ _ w.heap.size (bc R) _ 23 rfl (show v 5 = _ from d5) (k6.1 hti) (zk23 R HRL.out) (by rw [bc_length, HRL.out]; rfl) (bc_one _) (fun w' h1 h2 => ?_)
            exact ⟨h1.below hB (by omega), Nat.le_trans hsz h1.size, h1.blk q0 (by omega), h1.blk q1 (by omega), keepE (by decide) k0, keepE (by decide) k1, keepE (by decide) k2, keepE (by decide) k3, keepE (by decide) k4, keepE (by decide) k5, ⟨(fun h7 => by have h8 := setB_self t 6; rw [h7] at h8; cases h8), fun _ => h2, newE rfl⟩⟩
          · simp at ho
        · simp only [full, Act.put, List.setIfInBounds_toArray, List.set_cons_succ, List.set_cons_zero, Nat.zero_add, Nat.reduceAdd]
          intro t v wz hS ht
          obtain ⟨hB, hsz, q0, q1, k0, k1, k2, k3, k4, k5, k6⟩ := hS
          have f6 := k6.2.1 (ht 6 (by decide))
          clear ht k0 k1 k2 k3 k4 k5 k6  
          generalize v 0 = x0
          generalize v 1 = x1
          generalize v 2 = x2
          generalize v 3 = x3
          generalize v 4 = x4
          generalize v 5 = x5
          generalize v 6 = x6
          have hBz : Below w.heap.size w wz := hBf.trans (hB.mono (by omega))
          go_wp2_with fail
          (try simp only [Exit.inBlock, Exit.then])
          exact bodyPost_ret (results_blk rfl w.heap.size (bc R) _ rfl f6 Tryd.underlying23 rfl (zk23 R HRL.out)) rfl ⟨rfl, hBz⟩
end Go.Proofs.YtdfpnicpcndkjaaDoor
