/- MacPads' walk: the law returns true; nothing that was there has turned. -/
import Derived.Test.YtfbajkojjlgbdaaDoorAwake
import Derived.Test.YtfbajkojjlgbdaaDoorBytesArg
import Derived.OpenShut
namespace Go.Proofs.YtfbajkojjlgbdaaDoor.macPads
open Go.RowKit
set_option linter.unusedVariables false
theorem rsum_dig (T : ByteArray) (hT : T.size ≤ 100000) (D : List UInt8) (hD : sum T.data.toList = D) (w : World) :
    Calls Tryd.prog 20 #[.string T] w fun e w' => e = .returned (.agg (bc D).toArray) ∧ Below w.heap.size w w' := by
  have h := rsum_any T hT w
  rw [← sum_dig, hD] at h
  exact h
theorem blk_zero (k : List UInt8) (h : k.length < 64) : blkK (k ++ [0]) = blkK k := by
  have e1 : cutK (k ++ [0]) = k ++ [0] := by unfold cutK; rw [if_neg (by simp; omega)]
  have e2 : cutK k = k := by unfold cutK; rw [if_neg (by omega)]
  rw [blkK, blkK, e1, e2, List.append_assoc, List.length_append, show 64 - k.length = (64 - (k.length + [(0 : UInt8)].length)) + 1 by simp; omega, List.replicate_succ]
  rfl
theorem blk_dig (k : List UInt8) (h : 64 < k.length) : blkK (sum k) = blkK k := by
  have e1 : cutK (sum k) = sum k := by unfold cutK; rw [if_neg (by rw [sum_length]; decide)]
  have e2 : cutK k = sum k := by unfold cutK; rw [if_pos h]
  rw [blkK, blkK, e1, e2]
set_option maxRecDepth 100000 in
set_option maxHeartbeats 800000 in
theorem walk (a0 : ByteArray) (w0 : a0.size ≤ maxLen) (a1 : ByteArray) (w1 : a1.size ≤ maxLen) (u : World) (hT : Tabs u) :
    Calls Tryd.prog 6 #[.string a0, .string a1] u fun e w' => e = .returned (.bool true) ∧ Below u.heap.size u w' := by
  have hts := hT.size
  cases hL : largeB [a0, a1] with
  | true =>
    go_enter Tryd.func6, Tryd.ntmps6
    go_wp2_with fail
    refine (awake_any u hT).mono ?_; rintro e wa ⟨rfl, hBa⟩
    have na : u.heap.size ≤ wa.heap.size := hBa.size
    go_wp2_with (first
      | ((with_reducible refine at_strs 31 2 ?_); refine L_strs2 _ _ a0 a1 rfl rfl ?_; intro wl hl bl))
    have hBl : Below u.heap.size u wl := hl.below hBa (by omega)
    have nl : wa.heap.size < wl.heap.size := bl.lt
    refine (large2 a0 a1 _ wl bl).mono ?_; rw [hL]; rintro e wm ⟨rfl, hbm⟩
    have hBm : Below u.heap.size u wm := hBl.trans (hbm.mono (by omega))
    have nm : wl.heap.size ≤ wm.heap.size := hbm.size
    go_wp2_with fail
    go_ret
    exact ⟨rfl, hBm⟩
  | false =>
    have s0 : a0.size ≤ 300 := large_not hL (by simp)
    have s1 : a1.size ≤ 300 := large_not hL (by simp)
    have hz0 := Lib.size_eq a0
    obtain ⟨X, hX⟩ : ∃ X, tag a0.data.toList a1.data.toList = X := ⟨_, rfl⟩
    have HX : Shut (tag a0.data.toList a1.data.toList = X) := ⟨hX⟩
    have HXL : Hid (X.length = 32) := by show _ = _; rw [← hX]; exact tag_length _ _
    by_cases h1 : a0.size < 64
    · obtain ⟨K0, hK0⟩ : ∃ K0, a0 ++ (⟨#[0]⟩ : ByteArray) = K0 := ⟨_, rfl⟩
      have HK0 : Hid (a0 ++ (⟨#[0]⟩ : ByteArray) = K0) := hK0
      have HX0 : Shut (tag K0.data.toList a1.data.toList = X) := by
        refine ⟨?_⟩
        rw [← hK0, ByteArray.data_append, Array.toList_append, show (⟨#[0]⟩ : ByteArray).data.toList = [0] from rfl, tag, blk_zero _ (by omega)]
        exact hX
      have HKS : Hid (K0.size ≤ 549755813888) := by
        show _ ≤ _
        rw [← hK0, ByteArray.size_append]
        have : (⟨#[0]⟩ : ByteArray).size = 1 := rfl
        omega
      clear hX hK0 hz0 w0 w1
      go_enter Tryd.func6, Tryd.ntmps6
      go_wp2_with fail
      refine (awake_any u hT).mono ?_; rintro e wa ⟨rfl, hBa⟩
      have na : u.heap.size ≤ wa.heap.size := hBa.size
      go_wp2_with (first
        | ((with_reducible refine at_strs 31 2 ?_); refine L_strs2 _ _ a0 a1 rfl rfl ?_; intro wl hl bl))
      have hBl : Below u.heap.size u wl := hl.below hBa (by omega)
      have nl : wa.heap.size < wl.heap.size := bl.lt
      refine (large2 a0 a1 _ wl bl).mono ?_; rw [hL]; rintro e wm ⟨rfl, hbm⟩
      have hBm : Below u.heap.size u wm := hBl.trans (hbm.mono (by omega))
      have nm : wl.heap.size ≤ wm.heap.size := hbm.size
      clear hl bl hBl hbm hBa hL
      go_wp2_with fail
      refine (tag_any a0 a1 (by omega) (by omega) wm (hT.below hBm hts)).mono ?_; rw [HX.out]; rintro e wx ⟨rfl, hbx⟩
      have hBx : Below u.heap.size u wx := hBm.trans (hbx.mono (by omega))
      have nx : wm.heap.size ≤ wx.heap.size := hbx.size
      clear hbx
      go_wp2_with (first
        | ((with_reducible refine at_alloc 23 ?_); refine L_alloc 23 _ zero23 ?_; intro wy hy by')
        | ((with_reducible refine at_store 23 ?_); refine L_store_all 23 _ _ wx.heap.size (bc X) _ 23 rfl rfl by' (zk23 X HXL.out) (by rw [bc_length, HXL.out]; rfl) (bc_one _) ?_; intro wz hz cz)
        | ((with_reducible refine stop_region 7 ?_); intro Z hZ))
      refine hZ.out ?_
      clear hZ
      have hBz : Below u.heap.size u wz := hz.below (hy.below hBx (by omega)) (by omega)
      have nz := cz.lt
      clear hy hz by' hBx
      have hTx : ∀ w', Below wz.heap.size wz w' → Tabs w' := fun w' h => (hT.below hBz hts).below h (by have := hBz.size; omega)
      refine wp_region_fixed (by kernel_rfl) (by kernel_rfl) [.string a0, .string K0, .string a1, .agg (bc X).toArray, .agg (bc X).toArray, .bool true, .bool true] (by rfl) (fun w' => Below wz.heap.size wz w') (Below.refl _ _).drew ?_ ?_
      · simp only [fullL, Act.put, List.setIfInBounds_toArray, List.set_cons_succ, List.set_cons_zero]
        refine ⟨?_, ?_, ?_, ?_, ?_, ?_, ?_, trivial⟩
        · exact fun w hw => gw rfl (g_move _ _ rfl ⟨rfl, hw⟩)
        · exact fun w hw => gw rfl (g_sadd 9 _ _ a0 ⟨#[0]⟩ K0 rfl rfl HK0.out (by have : (⟨#[0]⟩ : ByteArray).size = 1 := rfl; omega) ⟨rfl, hw⟩)
        · exact fun w hw => gw rfl (g_move _ _ rfl ⟨rfl, hw⟩)
        · exact fun w hw => gw rfl (g_call 11 _ _ [.string K0, .string a1] (kf11 _ _) rfl (mono_val hw (by have h := tag_any K0 a1 HKS.out (by omega) w (hTx w hw); rw [HX0.out] at h; exact h)))
        · exact fun w hw => gw rfl (g_load_all 23 _ (wx.heap.size) _ 23 _ rfl (cz.below hw cz.lt) Tryd.underlying23 rfl (zk23 X HXL.out) ⟨rfl, hw⟩)
        · exact fun w hw => gw rfl (g_eql 23 5 _ _ 32 X X rfl rfl guard23 Tryd.underlying23 Tryd.underlying5 Tryd.sizeOf5 Tryd.isAgg5 HXL.out HXL.out ⟨by simp, hw⟩)
        · exact fun w hw => gw rfl (g_assign _ _ rfl ⟨rfl, hw⟩)
      · simp only [fullL, Act.put, List.setIfInBounds_toArray, List.set_cons_succ, List.set_cons_zero]
        intro w8 hw
        go_wp2_with fail
        go_ret
        exact ⟨rfl, hBz.trans (hw.mono hBz.size)⟩
    · by_cases h2 : 64 < a0.size
      · obtain ⟨D, hD⟩ : ∃ D, sum a0.data.toList = D := ⟨_, rfl⟩
        have HD : Shut (sum a0.data.toList = D) := ⟨hD⟩
        have HDL : Hid (D.length = 32) := by show _ = _; rw [← hD]; exact sum_length _
        have HDS : Hid ((⟨D.toArray⟩ : ByteArray).size ≤ 549755813888) := by show D.toArray.size ≤ _; have := HDL.out; simp [this]
        have HX1 : Shut (tag (⟨D.toArray⟩ : ByteArray).data.toList a1.data.toList = X) := by
          refine ⟨?_⟩
          show tag D _ = _
          rw [← hD, tag, blk_dig _ (by omega)]
          exact hX
        clear hX hD hz0 w0 w1
        go_enter Tryd.func6, Tryd.ntmps6
        go_wp2_with fail
        refine (awake_any u hT).mono ?_; rintro e wa ⟨rfl, hBa⟩
        have na : u.heap.size ≤ wa.heap.size := hBa.size
        go_wp2_with (first
          | ((with_reducible refine at_strs 31 2 ?_); refine L_strs2 _ _ a0 a1 rfl rfl ?_; intro wl hl bl))
        have hBl : Below u.heap.size u wl := hl.below hBa (by omega)
        have nl : wa.heap.size < wl.heap.size := bl.lt
        refine (large2 a0 a1 _ wl bl).mono ?_; rw [hL]; rintro e wm ⟨rfl, hbm⟩
        have hBm : Below u.heap.size u wm := hBl.trans (hbm.mono (by omega))
        have nm : wl.heap.size ≤ wm.heap.size := hbm.size
        clear hl bl hBl hbm hBa hL
        go_wp2_with fail
        refine (tag_any a0 a1 (by omega) (by omega) wm (hT.below hBm hts)).mono ?_; rw [HX.out]; rintro e wx ⟨rfl, hbx⟩
        have hBx : Below u.heap.size u wx := hBm.trans (hbx.mono (by omega))
        have nx : wm.heap.size ≤ wx.heap.size := hbx.size
        clear hbx
        go_wp2_with (first
          | ((with_reducible refine at_alloc 23 ?_); refine L_alloc 23 _ zero23 ?_; intro wy hy by')
          | ((with_reducible refine at_store 23 ?_); refine L_store_all 23 _ _ wx.heap.size (bc X) _ 23 rfl rfl by' (zk23 X HXL.out) (by rw [bc_length, HXL.out]; rfl) (bc_one _) ?_; intro wz hz cz))
        have hBz : Below u.heap.size u wz := hz.below (hy.below hBx (by omega)) (by omega)
        have nz := cz.lt
        clear hy hz by' hBx
        have hTz : ∀ w', Below wz.heap.size wz w' → Tabs w' := fun w' h => (hT.below hBz hts).below h (by have := hBz.size; omega)
        refine (rsum_dig a0 (by omega) D HD.out wz).mono ?_; rintro e wd ⟨rfl, hbd⟩
        have hBd : Below u.heap.size u wd := hBz.trans (hbd.mono (by omega))
        have nd : wz.heap.size ≤ wd.heap.size := hbd.size
        replace cz := cz.below hbd nz
        clear hbd hBz
        go_wp2_with (first
          | ((with_reducible refine at_alloc 23 ?_); refine L_alloc 23 _ zero23 ?_; intro we he be)
          | ((with_reducible refine at_store 23 ?_); refine L_store_all 23 _ _ wd.heap.size (bc D) _ 23 rfl rfl be (zk23 D HDL.out) (by rw [bc_length, HDL.out]; rfl) (bc_one _) ?_; intro wf hf cf)
          | ((with_reducible refine stop_region 10 ?_); intro Z hZ))
        refine hZ.out ?_
        clear hZ
        have hBf : Below u.heap.size u wf := hf.below (he.below hBd (by omega)) (by omega)
        replace cz := hf.blk (he.blk cz (by omega)) (by omega)
        clear he hf be hBd
        have hTx : ∀ w', Below wf.heap.size wf w' → Tabs w' := fun w' h => (hT.below hBf hts).below h (by have := hBf.size; omega)
        refine wp_region_fixed (by kernel_rfl) (by kernel_rfl) [.slice (some ⟨wd.heap.size, 0, none⟩) 32 32, .string ⟨D.toArray⟩, .string a1, .agg (bc X).toArray, .agg (bc X).toArray, .bool true, .bool true] (by rfl) (fun w' => Below wf.heap.size wf w') (Below.refl _ _).drew ?_ ?_
        · simp only [fullL, Act.put, List.setIfInBounds_toArray, List.set_cons_succ, List.set_cons_zero]
          refine ⟨?_, ?_, ?_, ?_, ?_, ?_, ?_, trivial⟩
          · exact fun w hw => gw rfl (g_val _ w (by have h := run_slice_all w wd.heap.size 0 32 23 5 Tryd.underlying23 Tryd.sizeOf5; go_simp) ⟨rfl, hw⟩)
          · exact fun w hw => gw rfl (g_val _ w (by have h := blk_all D HDL.out (cf.below hw cf.lt); go_simp) ⟨rfl, hw⟩)
          · exact fun w hw => gw rfl (g_move _ _ rfl ⟨rfl, hw⟩)
          · exact fun w hw => gw rfl (g_call 11 _ _ [.string ⟨D.toArray⟩, .string a1] (kf11 _ _) rfl (mono_val hw (by have h := tag_any ⟨D.toArray⟩ a1 HDS.out (by omega) w (hTx w hw); rw [HX1.out] at h; exact h)))
          · exact fun w hw => gw rfl (g_load_all 23 _ (wx.heap.size) _ 23 _ rfl (cz.below hw cz.lt) Tryd.underlying23 rfl (zk23 X HXL.out) ⟨rfl, hw⟩)
          · exact fun w hw => gw rfl (g_eql 23 5 _ _ 32 X X rfl rfl guard23 Tryd.underlying23 Tryd.underlying5 Tryd.sizeOf5 Tryd.isAgg5 HXL.out HXL.out ⟨by simp, hw⟩)
          · exact fun w hw => gw rfl (g_assign _ _ rfl ⟨rfl, hw⟩)
        · simp only [fullL, Act.put, List.setIfInBounds_toArray, List.set_cons_succ, List.set_cons_zero]
          intro w8 hw
          go_wp2_with fail
          go_ret
          exact ⟨rfl, hBf.trans (hw.mono hBf.size)⟩
      · clear hX hz0 w0 w1
        go_enter Tryd.func6, Tryd.ntmps6
        go_wp2_with fail
        refine (awake_any u hT).mono ?_; rintro e wa ⟨rfl, hBa⟩
        have na : u.heap.size ≤ wa.heap.size := hBa.size
        go_wp2_with (first
          | ((with_reducible refine at_strs 31 2 ?_); refine L_strs2 _ _ a0 a1 rfl rfl ?_; intro wl hl bl))
        have hBl : Below u.heap.size u wl := hl.below hBa (by omega)
        have nl : wa.heap.size < wl.heap.size := bl.lt
        refine (large2 a0 a1 _ wl bl).mono ?_; rw [hL]; rintro e wm ⟨rfl, hbm⟩
        have hBm : Below u.heap.size u wm := hBl.trans (hbm.mono (by omega))
        have nm : wl.heap.size ≤ wm.heap.size := hbm.size
        clear hl bl hBl hbm hBa hL
        go_wp2_with fail
        refine (tag_any a0 a1 (by omega) (by omega) wm (hT.below hBm hts)).mono ?_; rw [HX.out]; rintro e wx ⟨rfl, hbx⟩
        have hBx : Below u.heap.size u wx := hBm.trans (hbx.mono (by omega))
        have nx : wm.heap.size ≤ wx.heap.size := hbx.size
        clear hbx
        go_wp2_with (first
          | ((with_reducible refine at_alloc 23 ?_); refine L_alloc 23 _ zero23 ?_; intro wy hy by')
          | ((with_reducible refine at_store 23 ?_); refine L_store_all 23 _ _ wx.heap.size (bc X) _ 23 rfl rfl by' (zk23 X HXL.out) (by rw [bc_length, HXL.out]; rfl) (bc_one _) ?_; intro wz hz cz))
        have hBz : Below u.heap.size u wz := hz.below (hy.below hBx (by omega)) (by omega)
        have nz := cz.lt
        clear hy hz by' hBx
        have hTx : ∀ w', Below wz.heap.size wz w' → Tabs w' := fun w' h => (hT.below hBz hts).below h (by have := hBz.size; omega)
        go_ret
        exact ⟨rfl, hBz⟩
end Go.Proofs.YtfbajkojjlgbdaaDoor.macPads
