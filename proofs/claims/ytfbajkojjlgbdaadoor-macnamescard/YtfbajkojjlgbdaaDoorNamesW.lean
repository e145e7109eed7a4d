/- MacNames' walk: the law returns true; nothing that was there has turned. -/
import Derived.Test.YtfbajkojjlgbdaaDoorAwake
import Derived.Test.YtfbajkojjlgbdaaDoorBytesArg
import Derived.OpenShut
namespace Go.Proofs.YtfbajkojjlgbdaaDoor.macNames
open Go.RowKit
set_option linter.unusedVariables false
set_option maxRecDepth 100000 in
set_option maxHeartbeats 4000000 in
theorem walk (a0 : List UInt8) (w0 : a0.length = 32) (a1 : ByteArray) (w1 : a1.size ≤ maxLen) (a2 : ByteArray) (w2 : a2.size ≤ maxLen) (u : World) (hT : Tabs u) :
    Calls Tryd.prog 7 #[.agg (bc a0).toArray, .string a1, .string a2] u fun e w' => e = .returned (.bool true) ∧ Below u.heap.size u w' := by
  have hts := hT.size
  cases hL : largeB [a1, a2] with
  | true =>
    go_enter Tryd.func7, Tryd.ntmps7
    go_wp2_with (first
      | ((with_reducible refine at_box 23 ?_); refine L_box 23 _ (bc a0) rfl ?_; intro wb hbx bb))
    have nb : u.heap.size < wb.heap.size := bb.lt
    have hBb : Below u.heap.size u wb := hbx.below (Below.refl _ _) (Nat.le_refl _)
    refine (awake_any wb (hT.below hBb hts)).mono ?_; rintro e wa ⟨rfl, hba⟩
    have hBa : Below u.heap.size u wa := hBb.trans (hba.mono (by omega))
    have ba := bb.below hba nb
    have na : u.heap.size < wa.heap.size := ba.lt
    clear hbx bb hBb hba
    go_wp2_with (first
      | ((with_reducible refine at_strs 31 2 ?_); refine L_strs2 _ _ a1 a2 rfl rfl ?_; intro wl hl bl))
    have hBl : Below u.heap.size u wl := hl.below hBa (by omega)
    have nl : wa.heap.size < wl.heap.size := bl.lt
    refine (large2 a1 a2 _ wl bl).mono ?_; rw [hL]; rintro e wm ⟨rfl, hbm⟩
    have hBm : Below u.heap.size u wm := hBl.trans (hbm.mono (by omega))
    have nm : wl.heap.size ≤ wm.heap.size := hbm.size
    go_wp2_with fail
    go_ret
    exact ⟨rfl, hBm⟩
  | false =>
    have s1 : a1.size ≤ 300 := large_not hL (by simp)
    have s2 : a2.size ≤ 300 := large_not hL (by simp)
    obtain ⟨X, hX⟩ : ∃ X, tag a0 a1.data.toList = X := ⟨_, rfl⟩
    have HX : Shut (tag a0 a1.data.toList = X) := ⟨hX⟩
    have HXL : Hid (X.length = 32) := by show _ = _; rw [← hX]; exact tag_length _ _
    have HS : Shut (fst ⟨a0.toArray⟩ a1 32 = ⟨X.toArray⟩) := by
      refine ⟨?_⟩
      unfold fst
      rw [show cutN 32 = 32 from rfl, show tag (⟨a0.toArray⟩ : ByteArray).data.toList a1.data.toList = X from hX, List.take_of_length_le (by rw [HXL.out]; exact Nat.le_refl _)]
    obtain ⟨Y, hY⟩ : ∃ Y, tag X a2.data.toList = Y := ⟨_, rfl⟩
    have HY : Shut (tag X a2.data.toList = Y) := ⟨hY⟩
    have HY2 : Shut (tag (⟨X.toArray⟩ : ByteArray).data.toList a2.data.toList = Y) := ⟨hY⟩
    have HYL : Hid (Y.length = 32) := by show _ = _; rw [← hY]; exact tag_length _ _
    have HXS : Hid ((⟨X.toArray⟩ : ByteArray).size ≤ 549755813888) := by show X.toArray.size ≤ _; have := HXL.out; simp [this]
    have HAS : Hid ((⟨a0.toArray⟩ : ByteArray).size ≤ 549755813888) := by show a0.toArray.size ≤ _; simp [w0]
    clear hX hY w1 w2
    go_enter Tryd.func7, Tryd.ntmps7
    go_wp2_with (first
      | ((with_reducible refine at_box 23 ?_); refine L_box 23 _ (bc a0) rfl ?_; intro wb hbx bb))
    have nb : u.heap.size < wb.heap.size := bb.lt
    have hBb : Below u.heap.size u wb := hbx.below (Below.refl _ _) (Nat.le_refl _)
    refine (awake_any wb (hT.below hBb hts)).mono ?_; rintro e wa ⟨rfl, hba⟩
    have hBa : Below u.heap.size u wa := hBb.trans (hba.mono (by omega))
    have ba := bb.below hba nb
    have na : u.heap.size < wa.heap.size := ba.lt
    clear hbx bb hBb hba
    go_wp2_with (first
      | ((with_reducible refine at_strs 31 2 ?_); refine L_strs2 _ _ a1 a2 rfl rfl ?_; intro wl hl bl))
    have hBl : Below u.heap.size u wl := hl.below hBa (by omega)
    have nl : wa.heap.size < wl.heap.size := bl.lt
    refine (large2 a1 a2 _ wl bl).mono ?_; rw [hL]; rintro e wm ⟨rfl, hbm⟩
    have hBm : Below u.heap.size u wm := hBl.trans (hbm.mono (by omega))
    have nm : wl.heap.size ≤ wm.heap.size := hbm.size
    have bm := (hl.blk ba (by omega)).below hbm (by omega)
    clear ba
    clear hl bl hBl hbm hBa hL
    go_wp2_with (first
      | ((with_reducible refine at_load 23 ?_); refine L_load_all 23 _ u.heap.size _ 23 _ rfl bm Tryd.underlying23 rfl (zk23 a0 w0) ?_))
    refine (of_any a0 w0 a1 (by omega) wm (hT.below hBm hts)).mono ?_; rw [HX.out]; rintro e wx ⟨rfl, hbx⟩
    have hBx : Below u.heap.size u wx := hBm.trans (hbx.mono (by omega))
    have nx : wm.heap.size ≤ wx.heap.size := hbx.size
    have bx := bm.below hbx (by omega)
    clear bm hbx
    go_wp2_with (first
      | ((with_reducible refine at_alloc 23 ?_); refine L_alloc 23 _ zero23 ?_; intro wy hy by')
      | ((with_reducible refine at_store 23 ?_); refine L_store_all 23 _ _ wx.heap.size (bc X) _ 23 rfl rfl by' (zk23 X HXL.out) (by rw [bc_length, HXL.out]; rfl) (bc_one _) ?_; intro wz hz cz; have hsl := run_slice_all wz u.heap.size 0 32 23 5 Tryd.underlying23 Tryd.sizeOf5; have hcv := blk_all a0 w0 (hz.blk (hy.blk bx (by omega)) (by omega))))
    have hBz : Below u.heap.size u wz := hz.below (hy.below hBx (by omega)) (by omega)
    have nz := cz.lt
    clear hy hz by' bx hsl hcv hBx
    refine (short_any ⟨a0.toArray⟩ a1 32 HAS.out (by omega) wz (hT.below hBz hts)).mono ?_; rw [HS.out]; rintro e wv ⟨rfl, hbv⟩
    have hBv : Below u.heap.size u wv := hBz.trans (hbv.mono (by omega))
    have hTx : ∀ w', Below wv.heap.size wv w' → Tabs w' := fun w' h => (hT.below hBv hts).below h (by have := hBv.size; omega)
    replace cz := cz.below hbv nz
    clear hbv hBz
    go_wp2_with (first
      | ((with_reducible refine stop_list 22 ?_); intro Z hZ))
    refine hZ.out ?_
    clear hZ
    refine wp_list_text (by kernel_rfl) [.slice (some ⟨wx.heap.size, 0, none⟩) 32 32, .string ⟨X.toArray⟩, .string ⟨X.toArray⟩, .bool true, .bool true, .agg (bc X).toArray, .string a2, .agg (bc Y).toArray, .string ⟨X.toArray⟩, .string a2, .agg (bc Y).toArray, .bool true, .bool true, .bool true] (by rfl) (fun w' => Below wv.heap.size wv w') (Below.refl _ _) ?_ ?_
    · simp only [fullL, Act.put, List.setIfInBounds_toArray, List.set_cons_succ, List.set_cons_zero]
      refine ⟨?_, ?_, ?_, ?_, ?_, ?_, ?_, ?_, ?_, ?_, ?_, ?_, ?_, ?_, trivial⟩
      · exact fun w hw => gw rfl (g_val _ w (by have h := run_slice_all w wx.heap.size 0 32 23 5 Tryd.underlying23 Tryd.sizeOf5; go_simp) ⟨rfl, hw⟩)
      · exact fun w hw => gw rfl (g_val _ w (by have h := blk_all X HXL.out (cz.below hw cz.lt); go_simp) ⟨rfl, hw⟩)
      · exact fun w hw => gw rfl (g_move _ _ rfl ⟨rfl, hw⟩)
      · exact fun w hw => gw rfl (g_seql 9 _ _ ⟨X.toArray⟩ rfl rfl ⟨rfl, hw⟩)
      · exact fun w hw => gw rfl (g_move _ _ rfl ⟨rfl, hw⟩)
      · exact fun w hw => gw rfl (g_load_all 23 _ (wx.heap.size) _ 23 _ rfl (cz.below hw cz.lt) Tryd.underlying23 rfl (zk23 X HXL.out) ⟨rfl, hw⟩)
      · exact fun w hw => gw rfl (g_move _ _ rfl ⟨rfl, hw⟩)
      · exact fun w hw => gw rfl (g_call 13 _ _ [.agg (bc X).toArray, .string a2] (kf13 _ _) rfl (mono_val hw (by have h := of_any X HXL.out a2 (by omega) w (hTx w hw); rw [HY.out] at h; exact h)))
      · exact fun w hw => gw rfl (g_move _ _ rfl ⟨rfl, hw⟩)
      · exact fun w hw => gw rfl (g_move _ _ rfl ⟨rfl, hw⟩)
      · exact fun w hw => gw rfl (g_call 11 _ _ [.string ⟨X.toArray⟩, .string a2] (kf11 _ _) rfl (mono_val hw (by have h := tag_any ⟨X.toArray⟩ a2 HXS.out (by omega) w (hTx w hw); rw [HY2.out] at h; exact h)))
      · exact fun w hw => gw rfl (g_eql 23 5 _ _ 32 Y Y rfl rfl guard23 Tryd.underlying23 Tryd.underlying5 Tryd.sizeOf5 Tryd.isAgg5 HYL.out HYL.out ⟨by simp, hw⟩)
      · exact fun w hw => gw rfl (g_pick _ _ _ _ rfl rfl ⟨rfl, hw⟩)
      · exact fun w hw => gw rfl (g_assign _ _ rfl ⟨rfl, hw⟩)
    · simp only [fullL, Act.put, List.setIfInBounds_toArray, List.set_cons_succ, List.set_cons_zero]
      intro w8 hw
      go_wp2_with fail
      go_ret
      exact ⟨rfl, hBv.trans (hw.mono hBv.size)⟩
end Go.Proofs.YtfbajkojjlgbdaaDoor.macNames
