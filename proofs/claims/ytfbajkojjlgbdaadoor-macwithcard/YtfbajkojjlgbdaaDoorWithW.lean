/- MacWith' walk: the law returns true; nothing that was there has turned. -/
import Derived.Test.YtfbajkojjlgbdaaDoorAwake
import Derived.Test.YtfbajkojjlgbdaaDoorBytesArg
import Derived.OpenShut
namespace Go.Proofs.YtfbajkojjlgbdaaDoor.macWith
open Go.RowKit
set_option linter.unusedVariables false
theorem Lies.below {u w' : World} {ao : Option Addr} {n : Nat} {ss : List ByteArray} (h : Lies u ao n ss) (hb : Below u.heap.size u w') : Lies w' ao n ss := fun j hj => by
  obtain ⟨b, o, e, hcell⟩ := h j hj
  exact ⟨b, o, e, (hb.cell (p := ⟨b, o + j, none⟩) (World.block_lt_of_cell? u _ hcell)).trans hcell⟩
theorem run_at (w : World) (b o n cap k : Nat) (hk : k < n) : (Instr.indexAt 31 (.slice (some ⟨b, o, none⟩) n cap) (.int .i64 k)).run Tryd.prog w = .ok (.pointer (some ⟨b, o + k, none⟩)) w := by
  go_simp
theorem g_neql {P : Program} {a : Act} {w : World} {K : Value → World → Prop} {dst : Option Tmp} {ty yt : TypeId} {pos : String} {aft : Array Edge} {gd : Option (Nat × Bool)} (t e : TypeId) (x y : Operand) (n : Nat) (l m : List UInt8) (hx : a.eval x = .agg (bc l).toArray) (hy : a.eval y = .agg (bc m).toArray) (hg : P.eqGuardType P.depth t = false)
    (hu : P.underlying t = some (.array n e)) (he : P.underlying e = some (.int .u8)) (hs : ∀ w, (sizeOf e).run P w = .ok 1 w) (ha : ∀ w, (isAgg e).run P w = .ok false w) (hl : l.length = n) (hm : m.length = n)
    (hk : K (.bool (!decide (l = m))) w) : gives P ⟨dst, .binOp .neq t x y yt, ty, pos, aft, gd⟩ a w K := by
  have h := run_equal w t e n l m hu he hs ha hl hm
  exact g_val _ _ (by simp [execOp, hx, hy, eqGuard, hg, binOp, h]) hk
set_option maxRecDepth 100000 in
set_option maxHeartbeats 800000 in
theorem walk (a0 : ByteArray) (w0 : a0.size ≤ maxLen) (ao : Option Addr) (n cap : Nat) (ss : List ByteArray) (hl : ss.length = n) (u : World) (hc : Lies u ao n ss) (hn : n ≤ 9223372036854775807) (hT : Tabs u) :
    Calls Tryd.prog 4 #[.string a0, .slice ao n cap] u fun e w' => e = .returned (.bool true) ∧ Below u.heap.size u w' := by
  have hts := hT.size
  cases hL1 : largeB [a0] with
  | true =>
    go_enter Tryd.func4, Tryd.ntmps4
    go_wp2_with fail
    refine (awake_any u hT).mono ?_; rintro e wa ⟨rfl, hBa⟩
    have na := hBa.size
    go_wp2_with (first
      | ((with_reducible refine at_strs 31 1 ?_); refine L_strs1 _ a0 rfl ?_; intro wl hl' bl))
    have hBl : Below u.heap.size u wl := hl'.below hBa (by omega)
    have nl : wa.heap.size < wl.heap.size := bl.lt
    refine (large1 a0 _ wl bl).mono ?_; rw [hL1]; rintro e wm ⟨rfl, hbm⟩
    have hBm : Below u.heap.size u wm := hBl.trans (hbm.mono (by omega))
    have nm := hBm.size
    clear hl' bl hBl hbm hBa
    go_wp2_with fail
    go_ret
    exact ⟨rfl, hBm⟩
  | false =>
    have s0 : a0.size ≤ 300 := large_not hL1 (by simp)
    cases hL2 : largeB ss with
    | true =>
      go_enter Tryd.func4, Tryd.ntmps4
      go_wp2_with fail
      refine (awake_any u hT).mono ?_; rintro e wa ⟨rfl, hBa⟩
      have na := hBa.size
      go_wp2_with (first
        | ((with_reducible refine at_strs 31 1 ?_); refine L_strs1 _ a0 rfl ?_; intro wl hl' bl))
      have hBl : Below u.heap.size u wl := hl'.below hBa (by omega)
      have nl : wa.heap.size < wl.heap.size := bl.lt
      refine (large1 a0 _ wl bl).mono ?_; rw [hL1]; rintro e wm ⟨rfl, hbm⟩
      have hBm : Below u.heap.size u wm := hBl.trans (hbm.mono (by omega))
      have nm := hBm.size
      clear hl' bl hBl hbm hBa
      go_wp2_with fail
      refine (large_any ao n cap ss hl hn wm (Lies.below (u := u) hc hBm)).mono ?_; rw [hL2]; rintro e wn ⟨rfl, hbn⟩
      have hBn : Below u.heap.size u wn := hBm.trans (hbn.mono nm)
      clear hbn
      clear hL1 hL2 hc
      go_wp2_with fail
      go_ret
      exact ⟨rfl, hBn⟩
    | false =>
      have HSS : Shut (∀ j, j < n → (ss.getD j ByteArray.empty).size ≤ 300) := ⟨fun j hj => large_not hL2 (by simp [hl, hj])⟩
      by_cases h20 : 20 < n
      · skip
        go_enter Tryd.func4, Tryd.ntmps4
        go_wp2_with fail
        refine (awake_any u hT).mono ?_; rintro e wa ⟨rfl, hBa⟩
        have na := hBa.size
        go_wp2_with (first
          | ((with_reducible refine at_strs 31 1 ?_); refine L_strs1 _ a0 rfl ?_; intro wl hl' bl))
        have hBl : Below u.heap.size u wl := hl'.below hBa (by omega)
        have nl : wa.heap.size < wl.heap.size := bl.lt
        refine (large1 a0 _ wl bl).mono ?_; rw [hL1]; rintro e wm ⟨rfl, hbm⟩
        have hBm : Below u.heap.size u wm := hBl.trans (hbm.mono (by omega))
        have nm := hBm.size
        clear hl' bl hBl hbm hBa
        go_wp2_with fail
        refine (large_any ao n cap ss hl hn wm (Lies.below (u := u) hc hBm)).mono ?_; rw [hL2]; rintro e wn ⟨rfl, hbn⟩
        have hBn : Below u.heap.size u wn := hBm.trans (hbn.mono nm)
        clear hbn
        clear hL1 hL2 hc
        go_wp2_with fail
        go_ret
        exact ⟨rfl, hBn⟩
      · skip
        go_enter Tryd.func4, Tryd.ntmps4
        go_wp2_with fail
        refine (awake_any u hT).mono ?_; rintro e wa ⟨rfl, hBa⟩
        have na := hBa.size
        go_wp2_with (first
          | ((with_reducible refine at_strs 31 1 ?_); refine L_strs1 _ a0 rfl ?_; intro wl hl' bl))
        have hBl : Below u.heap.size u wl := hl'.below hBa (by omega)
        have nl : wa.heap.size < wl.heap.size := bl.lt
        refine (large1 a0 _ wl bl).mono ?_; rw [hL1]; rintro e wm ⟨rfl, hbm⟩
        have hBm : Below u.heap.size u wm := hBl.trans (hbm.mono (by omega))
        have nm := hBm.size
        clear hl' bl hBl hbm hBa
        go_wp2_with fail
        refine (large_any ao n cap ss hl hn wm (Lies.below (u := u) hc hBm)).mono ?_; rw [hL2]; rintro e wn ⟨rfl, hbn⟩
        have hBn : Below u.heap.size u wn := hBm.trans (hbn.mono nm)
        clear hbn
        clear hL1 hL2
        go_wp2_with fail
        refine (with_any a0 (by omega) wn (hT.below hBn hts)).mono ?_; rintro e wp ⟨p, q, rfl, hp, hq, bp, bq, hbp⟩
        have hBp : Below u.heap.size u wp := hBn.trans (hbp.mono hBn.size)
        have np : u.heap.size ≤ wp.heap.size := hBp.size
        clear hbp hBn hBm
        go_wp2_with fail
        go_loopw [6] (fun i wr => ∃ j : Nat, j ≤ n ∧ i = .int .i64 ((j : Int) - 1) ∧ Below wp.heap.size wp wr) (fun i _ => (intOf i + 1).toNat)
        case atStart => exact ⟨n, by omega, by go_num, Below.refl _ _⟩
        case round =>
          obtain ⟨j, hj, rfl, hbw⟩ := hrel
          by_cases h0 : 1 ≤ j
          · obtain ⟨k, rfl⟩ : ∃ k, j = k + 1 := ⟨j - 1, by omega⟩
            have hlt : k < n := by omega
            rw [show ((k + 1 : Nat) : Int) - 1 = (k : Int) by omega]
            obtain ⟨b, o, rfl, hcell⟩ := hc k hlt
            have hbl := World.block_lt_of_cell? u _ hcell
            obtain ⟨P, hP⟩ : ∃ P, ss.getD k ByteArray.empty = P := ⟨_, rfl⟩
            rw [hP] at hcell
            have hPs : P.size ≤ 300 := by rw [← hP]; exact HSS.out k hlt
            have hBr : Below u.heap.size u wr := hBp.trans (hbw.mono (by omega))
            have hPc : ∀ w', Below wr.heap.size wr w' → w'.cell? ⟨b, o + k, none⟩ = some (.string P) := fun w' h => by
              have h1 := (hBr.trans (h.mono hBr.size)).cell (p := ⟨b, o + k, none⟩) hbl
              rw [h1]; exact hcell
            obtain ⟨R, hR⟩ : ∃ R, tag a0.data.toList P.data.toList = R := ⟨_, rfl⟩
            have HR : Shut (tag a0.data.toList P.data.toList = R) := ⟨hR⟩
            have HRL : Hid (R.length = 32) := by show _ = _; rw [← hR]; exact tag_length _ _
            have hTx : ∀ w', Below wr.heap.size wr w' → Tabs w' := fun w' h => (hT.below hBr hts).below h (by have := hBr.size; omega)
            have dp := bp.below hbw bp.lt
            have dq := bq.below hbw bq.lt
            have HPC : Shut (∀ w', Below wr.heap.size wr w' → w'.cell? ⟨b, o + k, none⟩ = some (.string P)) := ⟨hPc⟩
            have HTX : Shut (∀ w', Below wr.heap.size wr w' → Tabs w') := ⟨hTx⟩
            clear hP hR hcell hPc hTx
            have hcl := HPC.out wr (Below.refl _ _)
            go_wp2_with (first
              | ((with_reducible refine stop_region 9 ?_); intro Z hZ))
            refine hZ.out ?_
            clear hZ
            have hPc := HPC.out
            have hTx := HTX.out
            refine wp_region_fixed (by kernel_rfl) (by kernel_rfl) [.func (.func 25) #[] #[.pointer (some ⟨p, 0, none⟩), .pointer (some ⟨q, 0, none⟩)], .slice (some ⟨b, o, none⟩) n cap, .int .i64 k, .pointer (some ⟨b, o + k, none⟩), .string P, .agg (bc R).toArray, .string a0, .slice (some ⟨b, o, none⟩) n cap, .int .i64 k, .pointer (some ⟨b, o + k, none⟩), .string P, .agg (bc R).toArray, .bool false] (by rfl) (fun w' => Below wr.heap.size wr w') (Below.refl _ _).drew ?_ ?_
            · simp only [fullL, Act.put, List.setIfInBounds_toArray, List.set_cons_succ, List.set_cons_zero]
              refine ⟨?_, ?_, ?_, ?_, ?_, ?_, ?_, ?_, ?_, ?_, ?_, ?_, ?_, trivial⟩
              · exact fun w hw => gw rfl (g_move _ _ rfl ⟨rfl, hw⟩)
              · exact fun w hw => gw rfl (g_move _ _ rfl ⟨rfl, hw⟩)
              · exact fun w hw => gw rfl (g_move _ _ rfl ⟨rfl, hw⟩)
              · exact fun w hw => gw rfl (g_val _ w (by have h := run_at w b o n cap k hlt; go_simp) ⟨rfl, hw⟩)
              · exact fun w hw => gw rfl (g_val _ w (by have h := hPc w hw; go_simp) ⟨rfl, hw⟩)
              · exact fun w hw => gw rfl (g_callc _ 25 _ _ #[.pointer (some ⟨p, 0, none⟩), .pointer (some ⟨q, 0, none⟩)] [.string P] rfl (kf25 _ _) rfl (mono_val hw (by have h := maker_any a0.data.toList P (by omega) p q w (hTx w hw) (dp.below hw dp.lt) (dq.below hw dq.lt); rw [HR.out] at h; exact h)))
              · exact fun w hw => gw rfl (g_move _ _ rfl ⟨rfl, hw⟩)
              · exact fun w hw => gw rfl (g_move _ _ rfl ⟨rfl, hw⟩)
              · exact fun w hw => gw rfl (g_move _ _ rfl ⟨rfl, hw⟩)
              · exact fun w hw => gw rfl (g_val _ w (by have h := run_at w b o n cap k hlt; go_simp) ⟨rfl, hw⟩)
              · exact fun w hw => gw rfl (g_val _ w (by have h := hPc w hw; go_simp) ⟨rfl, hw⟩)
              · exact fun w hw => gw rfl (g_call 11 _ _ [.string a0, .string P] (kf11 _ _) rfl (mono_val hw (by have h := tag_any a0 P (by omega) (by omega) w (hTx w hw); rw [HR.out] at h; exact h)))
              · exact fun w hw => gw rfl (g_neql 23 5 _ _ 32 R R rfl rfl guard23 Tryd.underlying23 Tryd.underlying5 Tryd.sizeOf5 Tryd.isAgg5 HRL.out HRL.out ⟨by simp, hw⟩)
            · simp only [fullL, Act.put, List.setIfInBounds_toArray, List.set_cons_succ, List.set_cons_zero]
              intro w8 hw
              clear hPc hTx
              go_wp2_with fail
              exact ⟨⟨k, by omega, by go_num, hbw.trans (hw.mono (by have := hbw.size; omega))⟩, by simp [intOf]⟩
          · obtain rfl : j = 0 := by omega
            have hneg : decide ((0 : Int) ≤ -1) = false := by decide
            go_wp2_with fail
            go_loopw [46] (fun i wr => ∃ j : Nat, j ≤ n ∧ i = .int .i64 j ∧ Below wp.heap.size wp wr) (fun i _ => n - (intOf i).toNat)
            case atStart => exact ⟨0, by omega, rfl, hbw⟩
            case round =>
              clear hbw
              obtain ⟨j, hj, rfl, hbw⟩ := hrel
              by_cases hlt : j < n
              · skip
                obtain ⟨b, o, rfl, hcell⟩ := hc j hlt
                have hbl := World.block_lt_of_cell? u _ hcell
                obtain ⟨P, hP⟩ : ∃ P, ss.getD j ByteArray.empty = P := ⟨_, rfl⟩
                rw [hP] at hcell
                have hPs : P.size ≤ 300 := by rw [← hP]; exact HSS.out j hlt
                have hBr : Below u.heap.size u wr := hBp.trans (hbw.mono (by omega))
                have hPc : ∀ w', Below wr.heap.size wr w' → w'.cell? ⟨b, o + j, none⟩ = some (.string P) := fun w' h => by
                  have h1 := (hBr.trans (h.mono hBr.size)).cell (p := ⟨b, o + j, none⟩) hbl
                  rw [h1]; exact hcell
                obtain ⟨R, hR⟩ : ∃ R, tag a0.data.toList P.data.toList = R := ⟨_, rfl⟩
                have HR : Shut (tag a0.data.toList P.data.toList = R) := ⟨hR⟩
                have HRL : Hid (R.length = 32) := by show _ = _; rw [← hR]; exact tag_length _ _
                have hTx : ∀ w', Below wr.heap.size wr w' → Tabs w' := fun w' h => (hT.below hBr hts).below h (by have := hBr.size; omega)
                have dp := bp.below hbw bp.lt
                have dq := bq.below hbw bq.lt
                have HPC : Shut (∀ w', Below wr.heap.size wr w' → w'.cell? ⟨b, o + j, none⟩ = some (.string P)) := ⟨hPc⟩
                have HTX : Shut (∀ w', Below wr.heap.size wr w' → Tabs w') := ⟨hTx⟩
                clear hP hR hcell hPc hTx
                have hcl := HPC.out wr (Below.refl _ _)
                go_wp2_with (first
                  | ((with_reducible refine stop_region 14 ?_); intro Z hZ))
                refine hZ.out ?_
                clear hZ
                have hPc := HPC.out
                have hTx := HTX.out
                refine wp_region_fixed (by kernel_rfl) (by kernel_rfl) [.func (.func 25) #[] #[.pointer (some ⟨p, 0, none⟩), .pointer (some ⟨q, 0, none⟩)], .slice (some ⟨b, o, none⟩) n cap, .int .i64 j, .pointer (some ⟨b, o + j, none⟩), .string P, .agg (bc R).toArray, .string a0, .slice (some ⟨b, o, none⟩) n cap, .int .i64 j, .pointer (some ⟨b, o + j, none⟩), .string P, .agg (bc R).toArray, .bool false] (by rfl) (fun w' => Below wr.heap.size wr w') (Below.refl _ _).drew ?_ ?_
                · simp only [fullL, Act.put, List.setIfInBounds_toArray, List.set_cons_succ, List.set_cons_zero]
                  refine ⟨?_, ?_, ?_, ?_, ?_, ?_, ?_, ?_, ?_, ?_, ?_, ?_, ?_, trivial⟩
                  · exact fun w hw => gw rfl (g_move _ _ rfl ⟨rfl, hw⟩)
                  · exact fun w hw => gw rfl (g_move _ _ rfl ⟨rfl, hw⟩)
                  · exact fun w hw => gw rfl (g_move _ _ rfl ⟨rfl, hw⟩)
                  · exact fun w hw => gw rfl (g_val _ w (by have h := run_at w b o n cap j hlt; go_simp) ⟨rfl, hw⟩)
                  · exact fun w hw => gw rfl (g_val _ w (by have h := hPc w hw; go_simp) ⟨rfl, hw⟩)
                  · exact fun w hw => gw rfl (g_callc _ 25 _ _ #[.pointer (some ⟨p, 0, none⟩), .pointer (some ⟨q, 0, none⟩)] [.string P] rfl (kf25 _ _) rfl (mono_val hw (by have h := maker_any a0.data.toList P (by omega) p q w (hTx w hw) (dp.below hw dp.lt) (dq.below hw dq.lt); rw [HR.out] at h; exact h)))
                  · exact fun w hw => gw rfl (g_move _ _ rfl ⟨rfl, hw⟩)
                  · exact fun w hw => gw rfl (g_move _ _ rfl ⟨rfl, hw⟩)
                  · exact fun w hw => gw rfl (g_move _ _ rfl ⟨rfl, hw⟩)
                  · exact fun w hw => gw rfl (g_val _ w (by have h := run_at w b o n cap j hlt; go_simp) ⟨rfl, hw⟩)
                  · exact fun w hw => gw rfl (g_val _ w (by have h := hPc w hw; go_simp) ⟨rfl, hw⟩)
                  · exact fun w hw => gw rfl (g_call 11 _ _ [.string a0, .string P] (kf11 _ _) rfl (mono_val hw (by have h := tag_any a0 P (by omega) (by omega) w (hTx w hw); rw [HR.out] at h; exact h)))
                  · exact fun w hw => gw rfl (g_neql 23 5 _ _ 32 R R rfl rfl guard23 Tryd.underlying23 Tryd.underlying5 Tryd.sizeOf5 Tryd.isAgg5 HRL.out HRL.out ⟨by simp, hw⟩)
                · simp only [fullL, Act.put, List.setIfInBounds_toArray, List.set_cons_succ, List.set_cons_zero]
                  intro w8 hw
                  clear hPc hTx
                  go_wp2_with fail
                  exact ⟨⟨j + 1, by omega, by go_num, hbw.trans (hw.mono (by have := hbw.size; omega))⟩, by simp [intOf]; omega⟩
              · have hd : decide ((j : Int) < (n : Int)) = false := by simp; omega
                go_wp2_with fail
                go_ret
                exact ⟨rfl, hBp.trans (hbw.mono (by omega))⟩
end Go.Proofs.YtfbajkojjlgbdaaDoor.macWith
