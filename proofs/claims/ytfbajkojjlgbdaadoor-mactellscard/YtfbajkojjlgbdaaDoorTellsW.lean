/- MacTells' walk: the law returns true; nothing that was there has turned. -/
import Derived.Test.YtfbajkojjlgbdaaDoorAwake
import Derived.Test.YtfbajkojjlgbdaaDoorRefM2
import Derived.Test.YtfbajkojjlgbdaaDoorBytesArg
import Derived.OpenShut
namespace Go.Proofs.YtfbajkojjlgbdaaDoor.macTells
open Go.RowKit
set_option linter.unusedVariables false
theorem kf12 (vs : Array Value) (w : World) : (callFunc 12 vs).run Tryd.prog w = .ok (.enter 12 vs) w := by go_simp
theorem kf14 (vs : Array Value) (w : World) : (callFunc 14 vs).run Tryd.prog w = .ok (.enter 14 vs) w := by go_simp
theorem kf16 (vs : Array Value) (w : World) : (callFunc 16 vs).run Tryd.prog w = .ok (.enter 16 vs) w := by go_simp
theorem kf18 (vs : Array Value) (w : World) : (callFunc 18 vs).run Tryd.prog w = .ok (.enter 18 vs) w := by go_simp
set_option maxRecDepth 100000 in
set_option maxHeartbeats 4000000 in
theorem walk (a0 : ByteArray) (w0 : a0.size ≤ maxLen) (a1 : ByteArray) (w1 : a1.size ≤ maxLen) (a2 : ByteArray) (w2 : a2.size ≤ maxLen) (a3 : List UInt8) (w3 : a3.length = 32) (a4 : Int) (w4 : (Lit.int .i64 a4).wf = true) (u : World) (hT : Tabs u) :
    Calls Tryd.prog 3 #[.string a0, .string a1, .string a2, .agg (bc a3).toArray, .int .i64 a4] u fun e w' => e = .returned (.bool true) ∧ Below u.heap.size u w' := by
  have hts := hT.size
  clear w4
  cases hL : largeB [a0, a1, a2] with
  | true =>
    go_enter Tryd.func3, Tryd.ntmps3
    go_wp2_with (first
      | ((with_reducible refine at_box 23 ?_); refine L_box 23 _ (bc a3) rfl ?_; intro wb hbx bb))
    have nb : u.heap.size < wb.heap.size := bb.lt
    have hBb : Below u.heap.size u wb := hbx.below (Below.refl _ _) (Nat.le_refl _)
    refine (awake_any wb (hT.below hBb hts)).mono ?_; rintro e wa ⟨rfl, hba⟩
    have hBa : Below u.heap.size u wa := hBb.trans (hba.mono (by omega))
    have ba := bb.below hba nb
    have na : u.heap.size < wa.heap.size := ba.lt
    clear hbx bb hBb hba
    go_wp2_with (first
      | ((with_reducible refine at_strs 31 3 ?_); refine L_strs3 _ _ _ a0 a1 a2 rfl rfl rfl ?_; intro wl hl bl))
    have hBl : Below u.heap.size u wl := hl.below hBa (by omega)
    have nl : wa.heap.size < wl.heap.size := bl.lt
    refine (large3 a0 a1 a2 _ wl bl).mono ?_; rw [hL]; rintro e wm ⟨rfl, hbm⟩
    have hBm : Below u.heap.size u wm := hBl.trans (hbm.mono (by omega))
    have nm : wl.heap.size ≤ wm.heap.size := hbm.size
    go_wp2_with fail
    go_ret
    exact ⟨rfl, hBm⟩
  | false =>
    have s0 : a0.size ≤ 300 := large_not hL (by simp)
    have s1 : a1.size ≤ 300 := large_not hL (by simp)
    have s2 : a2.size ≤ 300 := large_not hL (by simp)
    obtain ⟨X, hX⟩ : ∃ X, tag a0.data.toList a1.data.toList = X := ⟨_, rfl⟩
    have HX : Shut (tag a0.data.toList a1.data.toList = X) := ⟨hX⟩
    have HXL : Hid (X.length = 32) := by show _ = _; rw [← hX]; exact tag_length _ _
    obtain ⟨Y, hY⟩ : ∃ Y, tag a3 a1.data.toList = Y := ⟨_, rfl⟩
    have HY : Shut (tag a3 a1.data.toList = Y) := ⟨hY⟩
    have HYL : Hid (Y.length = 32) := by show _ = _; rw [← hY]; exact tag_length _ _
    obtain ⟨F, hF⟩ : ∃ F, fst a0 a1 a4 = F := ⟨_, rfl⟩
    have HF : Shut (fst a0 a1 a4 = F) := ⟨hF⟩
    obtain ⟨bb, hbb⟩ : ∃ bb, rightB a0 a1 a2 = bb := ⟨_, rfl⟩
    have HBB : Shut (rightB a0 a1 a2 = bb) := ⟨hbb⟩
    clear hX hY hF hbb w0 w1 w2
    go_enter Tryd.func3, Tryd.ntmps3
    go_wp2_with (first
      | ((with_reducible refine at_box 23 ?_); refine L_box 23 _ (bc a3) rfl ?_; intro wb hbx bb))
    have nb : u.heap.size < wb.heap.size := bb.lt
    have hBb : Below u.heap.size u wb := hbx.below (Below.refl _ _) (Nat.le_refl _)
    refine (awake_any wb (hT.below hBb hts)).mono ?_; rintro e wa ⟨rfl, hba⟩
    have hBa : Below u.heap.size u wa := hBb.trans (hba.mono (by omega))
    have ba := bb.below hba nb
    have na : u.heap.size < wa.heap.size := ba.lt
    clear hbx bb hBb hba
    go_wp2_with (first
      | ((with_reducible refine at_strs 31 3 ?_); refine L_strs3 _ _ _ a0 a1 a2 rfl rfl rfl ?_; intro wl hl bl))
    have hBl : Below u.heap.size u wl := hl.below hBa (by omega)
    have nl : wa.heap.size < wl.heap.size := bl.lt
    refine (large3 a0 a1 a2 _ wl bl).mono ?_; rw [hL]; rintro e wm ⟨rfl, hbm⟩
    have hBm : Below u.heap.size u wm := hBl.trans (hbm.mono (by omega))
    have nm : wl.heap.size ≤ wm.heap.size := hbm.size
    have bm := (hl.blk ba (by omega)).below hbm (by omega)
    clear ba
    clear hl bl hBl hbm hBa hL
    have hTx : ∀ w', Below wm.heap.size wm w' → Tabs w' := fun w' h => (hT.below hBm hts).below h (by have := hBm.size; omega)
    go_wp2_with (first
      | ((with_reducible refine stop_region 5 ?_); intro Z hZ))
    refine hZ.out ?_
    clear hZ
    refine wp_region_fixed (by kernel_rfl) (by kernel_rfl) [.string a0, .string a1, .agg (bc X).toArray, .string a0, .string a1, .agg (bc X).toArray, .bool true, .bool true, .agg (bc a3).toArray, .string a1, .agg (bc Y).toArray, .agg (bc a3).toArray, .string a1, .agg (bc Y).toArray, .bool true, .bool true, .bool true, .string a0, .string a1, .int .i64 a4, .string F, .string a0, .string a1, .int .i64 a4, .string F, .bool true, .bool true, .bool true, .string a0, .string a1, .string a2, .bool bb, .string a0, .string a1, .string a2, .bool bb, .bool true, .bool true, .bool true] (by rfl) (fun w' => Below wm.heap.size wm w') (Below.refl _ _).drew ?_ ?_
    · simp only [fullL, Act.put, List.setIfInBounds_toArray, List.set_cons_succ, List.set_cons_zero]
      refine ⟨?_, ?_, ?_, ?_, ?_, ?_, ?_, ?_, ?_, ?_, ?_, ?_, ?_, ?_, ?_, ?_, ?_, ?_, ?_, ?_, ?_, ?_, ?_, ?_, ?_, ?_, ?_, ?_, ?_, ?_, ?_, ?_, ?_, ?_, ?_, ?_, ?_, ?_, ?_, trivial⟩
      · exact fun w hw => gw rfl (g_move _ _ rfl ⟨rfl, hw⟩)
      · exact fun w hw => gw rfl (g_move _ _ rfl ⟨rfl, hw⟩)
      · exact fun w hw => gw rfl (g_call 11 _ _ [.string a0, .string a1] (kf11 _ _) rfl (mono_val hw (by have h := tag_any a0 a1 (by omega) (by omega) w (hTx w hw); rw [HX.out] at h; exact h)))
      · exact fun w hw => gw rfl (g_move _ _ rfl ⟨rfl, hw⟩)
      · exact fun w hw => gw rfl (g_move _ _ rfl ⟨rfl, hw⟩)
      · exact fun w hw => gw rfl (g_call 12 _ _ [.string a0, .string a1] (kf12 _ _) rfl (mono_val hw (by have h := rtag_any a0 a1 (by omega) (by omega) w; rw [HX.out] at h; exact h)))
      · exact fun w hw => gw rfl (g_eql 23 5 _ _ 32 X X rfl rfl guard23 Tryd.underlying23 Tryd.underlying5 Tryd.sizeOf5 Tryd.isAgg5 HXL.out HXL.out ⟨by simp, hw⟩)
      · exact fun w hw => gw rfl (g_move _ _ rfl ⟨rfl, hw⟩)
      · exact fun w hw => gw rfl (g_load_all 23 _ (u.heap.size) _ 23 _ rfl (bm.below hw bm.lt) Tryd.underlying23 rfl (zk23 a3 w3) ⟨rfl, hw⟩)
      · exact fun w hw => gw rfl (g_move _ _ rfl ⟨rfl, hw⟩)
      · exact fun w hw => gw rfl (g_call 13 _ _ [.agg (bc a3).toArray, .string a1] (kf13 _ _) rfl (mono_val hw (by have h := of_any a3 w3 a1 (by omega) w (hTx w hw); rw [HY.out] at h; exact h)))
      · exact fun w hw => gw rfl (g_load_all 23 _ (u.heap.size) _ 23 _ rfl (bm.below hw bm.lt) Tryd.underlying23 rfl (zk23 a3 w3) ⟨rfl, hw⟩)
      · exact fun w hw => gw rfl (g_move _ _ rfl ⟨rfl, hw⟩)
      · exact fun w hw => gw rfl (g_call 14 _ _ [.agg (bc a3).toArray, .string a1] (kf14 _ _) rfl (mono_val hw (by have h := rof_any a3 w3 a1 (by omega) w; rw [HY.out] at h; exact h)))
      · exact fun w hw => gw rfl (g_eql 23 5 _ _ 32 Y Y rfl rfl guard23 Tryd.underlying23 Tryd.underlying5 Tryd.sizeOf5 Tryd.isAgg5 HYL.out HYL.out ⟨by simp, hw⟩)
      · exact fun w hw => gw rfl (g_pick _ _ _ _ rfl rfl ⟨rfl, hw⟩)
      · exact fun w hw => gw rfl (g_move _ _ rfl ⟨rfl, hw⟩)
      · exact fun w hw => gw rfl (g_move _ _ rfl ⟨rfl, hw⟩)
      · exact fun w hw => gw rfl (g_move _ _ rfl ⟨rfl, hw⟩)
      · exact fun w hw => gw rfl (g_move _ _ rfl ⟨rfl, hw⟩)
      · exact fun w hw => gw rfl (g_call 15 _ _ [.string a0, .string a1, .int .i64 a4] (kf15 _ _) rfl (mono_val hw (by have h := short_any a0 a1 a4 (by omega) (by omega) w (hTx w hw); rw [HF.out] at h; exact h)))
      · exact fun w hw => gw rfl (g_move _ _ rfl ⟨rfl, hw⟩)
      · exact fun w hw => gw rfl (g_move _ _ rfl ⟨rfl, hw⟩)
      · exact fun w hw => gw rfl (g_move _ _ rfl ⟨rfl, hw⟩)
      · exact fun w hw => gw rfl (g_call 16 _ _ [.string a0, .string a1, .int .i64 a4] (kf16 _ _) rfl (mono_val hw (by have h := rshort_any a0 a1 a4 (by omega) (by omega) w; rw [HF.out] at h; exact h)))
      · exact fun w hw => gw rfl (g_seql 9 _ _ F rfl rfl ⟨rfl, hw⟩)
      · exact fun w hw => gw rfl (g_pick _ _ _ _ rfl rfl ⟨rfl, hw⟩)
      · exact fun w hw => gw rfl (g_move _ _ rfl ⟨rfl, hw⟩)
      · exact fun w hw => gw rfl (g_move _ _ rfl ⟨rfl, hw⟩)
      · exact fun w hw => gw rfl (g_move _ _ rfl ⟨rfl, hw⟩)
      · exact fun w hw => gw rfl (g_move _ _ rfl ⟨rfl, hw⟩)
      · exact fun w hw => gw rfl (g_call 17 _ _ [.string a0, .string a1, .string a2] (kf17 _ _) rfl (mono_val hw (by have h := mright_any a0 a1 a2 (by omega) (by omega) (by unfold maxLen; omega) w (hTx w hw); rw [HBB.out] at h; exact h)))
      · exact fun w hw => gw rfl (g_move _ _ rfl ⟨rfl, hw⟩)
      · exact fun w hw => gw rfl (g_move _ _ rfl ⟨rfl, hw⟩)
      · exact fun w hw => gw rfl (g_move _ _ rfl ⟨rfl, hw⟩)
      · exact fun w hw => gw rfl (g_call 18 _ _ [.string a0, .string a1, .string a2] (kf18 _ _) rfl (mono_val hw (by have h := rright_any a0 a1 a2 (by omega) (by omega) (by omega) w; rw [HBB.out] at h; exact h)))
      · exact fun w hw => gw rfl (g_val _ w (by cases bb <;> go_simp) ⟨rfl, hw⟩)
      · exact fun w hw => gw rfl (g_pick _ _ _ _ rfl rfl ⟨rfl, hw⟩)
      · exact fun w hw => gw rfl (g_assign _ _ rfl ⟨rfl, hw⟩)
    · simp only [fullL, Act.put, List.setIfInBounds_toArray, List.set_cons_succ, List.set_cons_zero]
      intro w8 hw
      go_wp2_with fail
      go_ret
      exact ⟨rfl, hBm.trans (hw.mono hBm.size)⟩
end Go.Proofs.YtfbajkojjlgbdaaDoor.macTells
