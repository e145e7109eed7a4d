/- MacShort' walk: the law returns true; nothing that was there has turned. -/
import Derived.Test.YtfbajkojjlgbdaaDoorAwake
import Derived.Test.YtfbajkojjlgbdaaDoorBytesB
import Derived.Test.YtfbajkojjlgbdaaDoorBytesArg
import Derived.OpenShut
namespace Go.Proofs.YtfbajkojjlgbdaaDoor.macShort
open Go.RowKit
set_option linter.unusedVariables false
theorem right_other (K T S c : ByteArray) (n : Int) (hS : fst K T n = S) (hne : S ≠ c) (hs : c.size = S.size) : rightB K T c = false := by
  unfold rightB
  have e : fst K T c.size = S := by
    rw [hs, ← hS, fst_size]
    unfold fst
    rw [cut_cut]
  rw [e]
  simp only [decide_eq_false_iff_not, not_and]
  intro _ h
  exact hne h.symm
set_option maxRecDepth 100000 in
set_option maxHeartbeats 800000 in
theorem walk (a0 : ByteArray) (w0 : a0.size ≤ maxLen) (a1 : ByteArray) (w1 : a1.size ≤ maxLen) (a2 : Int) (w2 : (Lit.int .u8 a2).wf = true) (a3 : Int) (w3 : (Lit.int .u8 a3).wf = true) (a4 : Int) (w4 : (Lit.int .u8 a4).wf = true) (u : World) (hT : Tabs u) :
    Calls Tryd.prog 5 #[.string a0, .string a1, .int .u8 a2, .int .u8 a3, .int .u8 a4] u fun e w' => e = .returned (.bool true) ∧ Below u.heap.size u w' := by
  have hts := hT.size
  obtain ⟨A, rfl⟩ := byte_of_wf a2 w2
  obtain ⟨B, rfl⟩ := byte_of_wf a3 w3
  obtain ⟨C, rfl⟩ := byte_of_wf a4 w4
  have hA := A.toNat_lt
  have hB := B.toNat_lt
  have hCl := C.toNat_lt
  clear w2 w3 w4
  cases hL : largeB [a0, a1] with
  | true =>
    go_enter Tryd.func5, Tryd.ntmps5
    go_wp2_with fail
    refine (awake_any u hT).mono ?_; rintro e wa ⟨rfl, hBa⟩
    have na : u.heap.size ≤ wa.heap.size := hBa.size
    go_wp2_with (first
      | ((with_reducible refine at_strs 31 2 ?_); refine L_strs2 _ _ a0 a1 rfl rfl ?_; intro wl hl bl))
    have hBl : Below u.heap.size u wl := hl.below hBa (by omega)
    have nl : wa.heap.size < wl.heap.size := bl.lt
    refine (large2 a0 a1 _ wl bl).mono ?_; rw [hL]; rintro e wm ⟨rfl, hbm⟩
    have hBm : Below u.heap.size u wm := hBl.trans (hbm.mono (by omega))
    have nm : wl.heap.size ≤ wm.heap.size := hbm.size
    go_wp2_with fail
    go_ret
    exact ⟨rfl, hBm⟩
  | false =>
    have s0 : a0.size ≤ 300 := large_not hL (by simp)
    have s1 : a1.size ≤ 300 := large_not hL (by simp)
    obtain ⟨m, hm⟩ : ∃ m : Nat, (A.toNat : Int) % 40 = (m : Int) := ⟨A.toNat % 40, by omega⟩
    obtain ⟨q, hq⟩ : ∃ q, cutN m = q := ⟨_, rfl⟩
    have hmn : min (m : Int) 32 = (q : Int) := by rw [← hq]; unfold cutN; omega
    obtain ⟨S, hS⟩ : ∃ S, fst a0 a1 m = S := ⟨_, rfl⟩
    have HS : Shut (fst a0 a1 m = S) := ⟨hS⟩
    have hSs : S.size = q := by rw [← hS, fst_size, hq]
    have hq32 : q ≤ 32 := by omega
    by_cases h8 : 8 ≤ q
    · have HRS : Shut (rightB a0 a1 S = true) := ⟨by rw [← hS, right_self, hq]; simpa using h8⟩
      have h8i : decide ((8 : Int) ≤ (q : Int)) = true := by simp; omega
      clear hS hq w0 w1
      by_cases h0 : q = 0
      · have he := is_empty8 S (by omega)
        omega
      have hem := not_empty8 S (by omega)
      by_cases hC : C.toNat = 0
      · have hC2 : ((C.toNat : Int) == 0) = true := by simp [hC]
        go_enter Tryd.func5, Tryd.ntmps5
        go_wp2_with fail
        refine (awake_any u hT).mono ?_; rintro e wa ⟨rfl, hBa⟩
        have na : u.heap.size ≤ wa.heap.size := hBa.size
        go_wp2_with (first
          | ((with_reducible refine at_strs 31 2 ?_); refine L_strs2 _ _ a0 a1 rfl rfl ?_; intro wl hl bl))
        have hBl : Below u.heap.size u wl := hl.below hBa (by omega)
        have nl : wa.heap.size < wl.heap.size := bl.lt
        refine (large2 a0 a1 _ wl bl).mono ?_; rw [hL]; rintro e wm ⟨rfl, hbm⟩
        have hBm : Below u.heap.size u wm := hBl.trans (hbm.mono (by omega))
        have nm : wl.heap.size ≤ wm.heap.size := hbm.size
        clear hl bl hBl hbm hBa hL
        go_wp2_with fail
        refine (short_any a0 a1 m (by omega) (by omega) wm (hT.below hBm hts)).mono ?_; rw [HS.out]; rintro e wx ⟨rfl, hbx⟩
        have hBx : Below u.heap.size u wx := hBm.trans (hbx.mono (by omega))
        have nx : wm.heap.size ≤ wx.heap.size := hbx.size
        clear hbx hBm
        go_wp2_with fail
        refine (mright_any a0 a1 S (by omega) (by omega) (by unfold maxLen; omega) wx (hT.below hBx hts)).mono ?_; rw [HRS.out]; rintro e wv ⟨rfl, hbv⟩
        have hBv : Below u.heap.size u wv := hBx.trans (hbv.mono (by omega))
        have nv : wx.heap.size ≤ wv.heap.size := hbv.size
        clear hbv hBx
        go_wp2_with fail
        go_ret
        exact ⟨rfl, hBv⟩
      have hC2 : ((C.toNat : Int) == 0) = false := beq_eq_false_iff_ne.2 (by omega)
      obtain ⟨j, hj⟩ : ∃ j : Nat, (B.toNat : Int) % (q : Int) = (j : Int) := ⟨((B.toNat : Int) % (q : Int)).toNat, by have := Int.emod_nonneg (B.toNat : Int) (b := (q : Int)) (by omega); omega⟩
      have hjs : j < q := by have := Int.emod_lt_of_pos (B.toNat : Int) (b := (q : Int)) (by omega); omega
      go_enter Tryd.func5, Tryd.ntmps5
      go_wp2_with fail
      refine (awake_any u hT).mono ?_; rintro e wa ⟨rfl, hBa⟩
      have na : u.heap.size ≤ wa.heap.size := hBa.size
      go_wp2_with (first
        | ((with_reducible refine at_strs 31 2 ?_); refine L_strs2 _ _ a0 a1 rfl rfl ?_; intro wl hl bl))
      have hBl : Below u.heap.size u wl := hl.below hBa (by omega)
      have nl : wa.heap.size < wl.heap.size := bl.lt
      refine (large2 a0 a1 _ wl bl).mono ?_; rw [hL]; rintro e wm ⟨rfl, hbm⟩
      have hBm : Below u.heap.size u wm := hBl.trans (hbm.mono (by omega))
      have nm : wl.heap.size ≤ wm.heap.size := hbm.size
      clear hl bl hBl hbm hBa hL
      go_wp2_with fail
      refine (short_any a0 a1 m (by omega) (by omega) wm (hT.below hBm hts)).mono ?_; rw [HS.out]; rintro e wx ⟨rfl, hbx⟩
      have hBx : Below u.heap.size u wx := hBm.trans (hbx.mono (by omega))
      have nx : wm.heap.size ≤ wx.heap.size := hbx.size
      clear hbx hBm
      go_wp2_with fail
      refine (mright_any a0 a1 S (by omega) (by omega) (by unfold maxLen; omega) wx (hT.below hBx hts)).mono ?_; rw [HRS.out]; rintro e wv ⟨rfl, hbv⟩
      have hBv : Below u.heap.size u wv := hBx.trans (hbv.mono (by omega))
      have nv : wx.heap.size ≤ wv.heap.size := hbv.size
      clear hbv hBx
      obtain ⟨W5, cap, hcv, hcell, hfrozen, hbW, hszW⟩ := conv_bytes wv S
      rw [hSs] at hcv
      have c1 := hcell j (by omega)
      have f1 := hfrozen j (by omega)
      have hv := xor8 S[j] C
      obtain ⟨c, hc, hcn, hcs⟩ := conv_back W5 wv.heap.size cap S hcell j (by omega) (S[j] ^^^ C) (xor_ne _ _ hC)
      have HC : Hid (∀ j (h : j < S.size), W5.cell? ⟨wv.heap.size, j, none⟩ = some (.int .u8 (S[j].toNat : Int))) := hcell
      have hxl := (S[j] ^^^ C).toNat_lt
      generalize (S[j] ^^^ C) = x at *
      generalize S[j] = y at *
      rw [hSs] at hc
      have hyl := y.toNat_lt
      clear hcell hfrozen
      have hz0 : ((q : Int) == 0) = false := beq_eq_false_iff_ne.2 (by omega)
      have hbb := (hBv.trans (hbW.mono (by omega))).setCell (p := ⟨wv.heap.size, j, none⟩) hBv.size (.int .u8 (x.toNat : Int))
      have HRC : Shut (rightB a0 a1 c = false) := ⟨right_other a0 a1 S c m HS.out hcn hcs⟩
      have HM : Hid (c.size ≤ maxLen) := by show _ ≤ _; rw [hcs, hSs]; unfold maxLen; omega
      clear hcn hcs
      go_wp2_with fail
      refine (mright_any a0 a1 c (by omega) (by omega) HM.out _ (hT.below hbb hts)).mono ?_; rw [HRC.out]; rintro e w6 ⟨rfl, hb6⟩
      go_wp2_with fail
      go_ret
      exact ⟨rfl, hbb.trans (hb6.mono hbb.size)⟩
    · have HRS : Shut (rightB a0 a1 S = false) := ⟨by rw [← hS, right_self, hq]; simpa using h8⟩
      have h8i : decide ((8 : Int) ≤ (q : Int)) = false := by simp; omega
      clear hS hq w0 w1
      by_cases h0 : q = 0
      · have he := is_empty8 S (by omega)
        go_enter Tryd.func5, Tryd.ntmps5
        go_wp2_with fail
        refine (awake_any u hT).mono ?_; rintro e wa ⟨rfl, hBa⟩
        have na : u.heap.size ≤ wa.heap.size := hBa.size
        go_wp2_with (first
          | ((with_reducible refine at_strs 31 2 ?_); refine L_strs2 _ _ a0 a1 rfl rfl ?_; intro wl hl bl))
        have hBl : Below u.heap.size u wl := hl.below hBa (by omega)
        have nl : wa.heap.size < wl.heap.size := bl.lt
        refine (large2 a0 a1 _ wl bl).mono ?_; rw [hL]; rintro e wm ⟨rfl, hbm⟩
        have hBm : Below u.heap.size u wm := hBl.trans (hbm.mono (by omega))
        have nm : wl.heap.size ≤ wm.heap.size := hbm.size
        clear hl bl hBl hbm hBa hL
        go_wp2_with fail
        refine (short_any a0 a1 m (by omega) (by omega) wm (hT.below hBm hts)).mono ?_; rw [HS.out]; rintro e wx ⟨rfl, hbx⟩
        have hBx : Below u.heap.size u wx := hBm.trans (hbx.mono (by omega))
        have nx : wm.heap.size ≤ wx.heap.size := hbx.size
        clear hbx hBm
        go_wp2_with fail
        refine (mright_any a0 a1 S (by omega) (by omega) (by unfold maxLen; omega) wx (hT.below hBx hts)).mono ?_; rw [HRS.out]; rintro e wv ⟨rfl, hbv⟩
        have hBv : Below u.heap.size u wv := hBx.trans (hbv.mono (by omega))
        have nv : wx.heap.size ≤ wv.heap.size := hbv.size
        clear hbv hBx
        go_wp2_with fail
        go_ret
        exact ⟨rfl, hBv⟩
      have hem := not_empty8 S (by omega)
      by_cases hC : C.toNat = 0
      · have hC2 : ((C.toNat : Int) == 0) = true := by simp [hC]
        go_enter Tryd.func5, Tryd.ntmps5
        go_wp2_with fail
        refine (awake_any u hT).mono ?_; rintro e wa ⟨rfl, hBa⟩
        have na : u.heap.size ≤ wa.heap.size := hBa.size
        go_wp2_with (first
          | ((with_reducible refine at_strs 31 2 ?_); refine L_strs2 _ _ a0 a1 rfl rfl ?_; intro wl hl bl))
        have hBl : Below u.heap.size u wl := hl.below hBa (by omega)
        have nl : wa.heap.size < wl.heap.size := bl.lt
        refine (large2 a0 a1 _ wl bl).mono ?_; rw [hL]; rintro e wm ⟨rfl, hbm⟩
        have hBm : Below u.heap.size u wm := hBl.trans (hbm.mono (by omega))
        have nm : wl.heap.size ≤ wm.heap.size := hbm.size
        clear hl bl hBl hbm hBa hL
        go_wp2_with fail
        refine (short_any a0 a1 m (by omega) (by omega) wm (hT.below hBm hts)).mono ?_; rw [HS.out]; rintro e wx ⟨rfl, hbx⟩
        have hBx : Below u.heap.size u wx := hBm.trans (hbx.mono (by omega))
        have nx : wm.heap.size ≤ wx.heap.size := hbx.size
        clear hbx hBm
        go_wp2_with fail
        refine (mright_any a0 a1 S (by omega) (by omega) (by unfold maxLen; omega) wx (hT.below hBx hts)).mono ?_; rw [HRS.out]; rintro e wv ⟨rfl, hbv⟩
        have hBv : Below u.heap.size u wv := hBx.trans (hbv.mono (by omega))
        have nv : wx.heap.size ≤ wv.heap.size := hbv.size
        clear hbv hBx
        go_wp2_with fail
        go_ret
        exact ⟨rfl, hBv⟩
      have hC2 : ((C.toNat : Int) == 0) = false := beq_eq_false_iff_ne.2 (by omega)
      obtain ⟨j, hj⟩ : ∃ j : Nat, (B.toNat : Int) % (q : Int) = (j : Int) := ⟨((B.toNat : Int) % (q : Int)).toNat, by have := Int.emod_nonneg (B.toNat : Int) (b := (q : Int)) (by omega); omega⟩
      have hjs : j < q := by have := Int.emod_lt_of_pos (B.toNat : Int) (b := (q : Int)) (by omega); omega
      go_enter Tryd.func5, Tryd.ntmps5
      go_wp2_with fail
      refine (awake_any u hT).mono ?_; rintro e wa ⟨rfl, hBa⟩
      have na : u.heap.size ≤ wa.heap.size := hBa.size
      go_wp2_with (first
        | ((with_reducible refine at_strs 31 2 ?_); refine L_strs2 _ _ a0 a1 rfl rfl ?_; intro wl hl bl))
      have hBl : Below u.heap.size u wl := hl.below hBa (by omega)
      have nl : wa.heap.size < wl.heap.size := bl.lt
      refine (large2 a0 a1 _ wl bl).mono ?_; rw [hL]; rintro e wm ⟨rfl, hbm⟩
      have hBm : Below u.heap.size u wm := hBl.trans (hbm.mono (by omega))
      have nm : wl.heap.size ≤ wm.heap.size := hbm.size
      clear hl bl hBl hbm hBa hL
      go_wp2_with fail
      refine (short_any a0 a1 m (by omega) (by omega) wm (hT.below hBm hts)).mono ?_; rw [HS.out]; rintro e wx ⟨rfl, hbx⟩
      have hBx : Below u.heap.size u wx := hBm.trans (hbx.mono (by omega))
      have nx : wm.heap.size ≤ wx.heap.size := hbx.size
      clear hbx hBm
      go_wp2_with fail
      refine (mright_any a0 a1 S (by omega) (by omega) (by unfold maxLen; omega) wx (hT.below hBx hts)).mono ?_; rw [HRS.out]; rintro e wv ⟨rfl, hbv⟩
      have hBv : Below u.heap.size u wv := hBx.trans (hbv.mono (by omega))
      have nv : wx.heap.size ≤ wv.heap.size := hbv.size
      clear hbv hBx
      obtain ⟨W5, cap, hcv, hcell, hfrozen, hbW, hszW⟩ := conv_bytes wv S
      rw [hSs] at hcv
      have c1 := hcell j (by omega)
      have f1 := hfrozen j (by omega)
      have hv := xor8 S[j] C
      obtain ⟨c, hc, hcn, hcs⟩ := conv_back W5 wv.heap.size cap S hcell j (by omega) (S[j] ^^^ C) (xor_ne _ _ hC)
      have HC : Hid (∀ j (h : j < S.size), W5.cell? ⟨wv.heap.size, j, none⟩ = some (.int .u8 (S[j].toNat : Int))) := hcell
      have hxl := (S[j] ^^^ C).toNat_lt
      generalize (S[j] ^^^ C) = x at *
      generalize S[j] = y at *
      rw [hSs] at hc
      have hyl := y.toNat_lt
      clear hcell hfrozen
      have hz0 : ((q : Int) == 0) = false := beq_eq_false_iff_ne.2 (by omega)
      have hbb := (hBv.trans (hbW.mono (by omega))).setCell (p := ⟨wv.heap.size, j, none⟩) hBv.size (.int .u8 (x.toNat : Int))
      have HRC : Shut (rightB a0 a1 c = false) := ⟨right_other a0 a1 S c m HS.out hcn hcs⟩
      have HM : Hid (c.size ≤ maxLen) := by show _ ≤ _; rw [hcs, hSs]; unfold maxLen; omega
      clear hcn hcs
      go_wp2_with fail
      refine (mright_any a0 a1 c (by omega) (by omega) HM.out _ (hT.below hbb hts)).mono ?_; rw [HRC.out]; rintro e w6 ⟨rfl, hb6⟩
      go_wp2_with fail
      go_ret
      exact ⟨rfl, hbb.trans (hb6.mono hbb.size)⟩
end Go.Proofs.YtfbajkojjlgbdaaDoor.macShort
