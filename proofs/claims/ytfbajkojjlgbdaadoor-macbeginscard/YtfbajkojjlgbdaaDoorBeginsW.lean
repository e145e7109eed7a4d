/- MacBegins' walk: the law returns true; nothing that was there has turned. -/
import Derived.Test.YtfbajkojjlgbdaaDoorAwake
import Derived.Test.YtfbajkojjlgbdaaDoorBytesArg
import Derived.OpenShut
namespace Go.Proofs.YtfbajkojjlgbdaaDoor.macBegins
open Go.RowKit
set_option linter.unusedVariables false
theorem cut_mono (a b : Nat) (h : a ≤ b) : cutN a ≤ cutN b := by unfold cutN; omega
theorem fst_begin (K T : ByteArray) (a b : Nat) (h : a ≤ b) : (fst K T b).extract 0 (cutN a) = fst K T a := by
  have h1 := cut_mono a b h
  apply ByteArray.ext
  apply Array.toList_inj.1
  rw [Lib.extract_data]
  unfold fst
  simp [List.take_take, Nat.min_eq_left h1]
set_option maxRecDepth 100000 in
set_option maxHeartbeats 800000 in
theorem walk (a0 : ByteArray) (w0 : a0.size ≤ maxLen) (a1 : ByteArray) (w1 : a1.size ≤ maxLen) (a2 : Int) (w2 : (Lit.int .u8 a2).wf = true) (a3 : Int) (w3 : (Lit.int .u8 a3).wf = true) (u : World) (hT : Tabs u) :
    Calls Tryd.prog 8 #[.string a0, .string a1, .int .u8 a2, .int .u8 a3] u fun e w' => e = .returned (.bool true) ∧ Below u.heap.size u w' := by
  have hts := hT.size
  obtain ⟨A, rfl⟩ := byte_of_wf a2 w2
  obtain ⟨B, rfl⟩ := byte_of_wf a3 w3
  have hA := A.toNat_lt
  have hB := B.toNat_lt
  clear w2 w3
  cases hL : largeB [a0, a1] with
  | true =>
    go_enter Tryd.func8, Tryd.ntmps8
    go_wp2_with fail
    refine (awake_any u hT).mono ?_; rintro e wa ⟨rfl, hBa⟩
    have na : u.heap.size ≤ wa.heap.size := hBa.size
    go_wp2_with (first
      | ((with_reducible refine at_strs 31 2 ?_); refine L_strs2 _ _ a0 a1 rfl rfl ?_; intro wl hl bl))
    have hBl : Below u.heap.size u wl := hl.below hBa (by omega)
    have nl : wa.heap.size < wl.heap.size := bl.lt
    refine (large2 a0 a1 _ wl bl).mono ?_; rw [hL]; rintro e wm ⟨rfl, hbm⟩
    have hBm : Below u.heap.size u wm := hBl.trans (hbm.mono (by omega))
    have nm : wl.heap.size ≤ wm.heap.size := hbm.size
    go_wp2_with fail
    go_ret
    exact ⟨rfl, hBm⟩
  | false =>
    have s0 : a0.size ≤ 300 := large_not hL (by simp)
    have s1 : a1.size ≤ 300 := large_not hL (by simp)
    obtain ⟨lo, hlo⟩ : ∃ lo : Nat, min (A.toNat : Int) (B.toNat : Int) = (lo : Int) := ⟨(min (A.toNat : Int) (B.toNat : Int)).toNat, by omega⟩
    obtain ⟨hi, hhi⟩ : ∃ hi : Nat, max (A.toNat : Int) (B.toNat : Int) = (hi : Int) := ⟨(max (A.toNat : Int) (B.toNat : Int)).toNat, by omega⟩
    have hlh : lo ≤ hi := by omega
    have hi2 : hi < 256 := by omega
    obtain ⟨R, hR⟩ : ∃ R, tag a0.data.toList a1.data.toList = R := ⟨_, rfl⟩
    have HR : Shut (tag a0.data.toList a1.data.toList = R) := ⟨hR⟩
    have HRL : Hid (R.length = 32) := by show _ = _; rw [← hR]; exact tag_length _ _
    obtain ⟨X, hX⟩ : ∃ X, fst a0 a1 lo = X := ⟨_, rfl⟩
    obtain ⟨Y, hY⟩ : ∃ Y, fst a0 a1 hi = Y := ⟨_, rfl⟩
    obtain ⟨m1, hm1⟩ : ∃ m, cutN lo = m := ⟨_, rfl⟩
    obtain ⟨m2, hm2⟩ : ∃ m, cutN hi = m := ⟨_, rfl⟩
    have hmm : m1 ≤ m2 := by rw [← hm1, ← hm2]; exact cut_mono _ _ hlh
    have hm32 : m2 ≤ 32 := by rw [← hm2]; exact cutN_le _
    have HX : Shut (fst a0 a1 lo = X) := ⟨hX⟩
    have HY : Shut (fst a0 a1 hi = Y) := ⟨hY⟩
    have HXS : Shut (X.size = m1) := ⟨by rw [← hX, fst_size, hm1]⟩
    have HYS : Shut (Y.size = m2) := ⟨by rw [← hY, fst_size, hm2]⟩
    have HE : Shut (Y.extract 0 m1 = X) := ⟨by rw [← hX, ← hY, ← hm1]; exact fst_begin a0 a1 lo hi hlh⟩
    have HYR : Shut ((⟨(R.take m2).toArray⟩ : ByteArray) = Y) := ⟨by rw [← hY, ← hR, ← hm2]; rfl⟩
    have HRM : Shut ((R.take m2).length = m2) := ⟨by rw [List.length_take, HRL.out]; omega⟩
    clear hR hX hY hm1 hm2 w0 w1
    go_enter Tryd.func8, Tryd.ntmps8
    go_wp2_with fail
    refine (awake_any u hT).mono ?_; rintro e wa ⟨rfl, hBa⟩
    have na : u.heap.size ≤ wa.heap.size := hBa.size
    go_wp2_with (first
      | ((with_reducible refine at_strs 31 2 ?_); refine L_strs2 _ _ a0 a1 rfl rfl ?_; intro wl hl bl))
    have hBl : Below u.heap.size u wl := hl.below hBa (by omega)
    have nl : wa.heap.size < wl.heap.size := bl.lt
    refine (large2 a0 a1 _ wl bl).mono ?_; rw [hL]; rintro e wm ⟨rfl, hbm⟩
    have hBm : Below u.heap.size u wm := hBl.trans (hbm.mono (by omega))
    have nm : wl.heap.size ≤ wm.heap.size := hbm.size
    clear hl bl hBl hbm hBa hL
    go_wp2_with fail
    refine (tag_any a0 a1 (by omega) (by omega) wm (hT.below hBm hts)).mono ?_; rw [HR.out]; rintro e wx ⟨rfl, hbx⟩
    have hBx : Below u.heap.size u wx := hBm.trans (hbx.mono (by omega))
    have nx : wm.heap.size ≤ wx.heap.size := hbx.size
    clear hbx
    go_wp2_with (first
      | ((with_reducible refine at_alloc 23 ?_); refine L_alloc 23 _ zero23 ?_; intro wy hy by')
      | ((with_reducible refine at_store 23 ?_); refine L_store_all 23 _ _ wx.heap.size (bc R) _ 23 rfl rfl by' (zk23 R HRL.out) (by rw [bc_length, HRL.out]; rfl) (bc_one _) ?_; intro wz hz cz))
    have hBz : Below u.heap.size u wz := hz.below (hy.below hBx (by omega)) (by omega)
    have nz := cz.lt
    clear hy hz by' hBx
    refine (short_any a0 a1 lo (by omega) (by omega) wz (hT.below hBz hts)).mono ?_; rw [HX.out]; rintro e wc ⟨rfl, hbc⟩
    have hBc : Below u.heap.size u wc := hBz.trans (hbc.mono (by omega))
    have nc : wz.heap.size ≤ wc.heap.size := hbc.size
    replace cz := cz.below hbc nz
    clear hbc hBz
    go_wp2_with fail
    refine (short_any a0 a1 hi (by omega) (by omega) wc (hT.below hBc hts)).mono ?_; rw [HY.out]; rintro e wd ⟨rfl, hbd⟩
    have hBd : Below u.heap.size u wd := hBc.trans (hbd.mono (by omega))
    replace cz := cz.below hbd (by omega)
    clear hbd hBc
    have hXs := HXS.out
    have hYs := HYS.out
    have hE := HE.out
    have hsl := run_slice_h wd wx.heap.size 0 32 m2 m2 23 5 Tryd.underlying23 Tryd.sizeOf5 rfl hm32 (by decide)
    have hcv := blk_string (o := 0) (n := m2) (cap := 32) cz (R.take m2) HRM.out (by rw [List.drop_zero, bc, bc, List.map_take])
    rw [HYR.out] at hcv
    clear hlo hhi
    go_wp2_with fail
    go_ret
    exact ⟨rfl, hBd⟩
end Go.Proofs.YtfbajkojjlgbdaaDoor.macBegins
