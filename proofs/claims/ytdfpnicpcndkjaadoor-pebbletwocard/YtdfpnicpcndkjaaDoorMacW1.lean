/- What the program's mac.masked answers: the state behind a block, each byte of it xored. -/
import Derived.Test.YtdfpnicpcndkjaaDoorMacMath
namespace Go.Proofs.YtdfpnicpcndkjaaDoor
set_option maxRecDepth 10000
open Go.RowKit
set_option linter.unusedVariables false

theorem kf41 (vs : Array Value) (w : World) : (callFunc 41 vs).run Tryd.prog w = .ok (.enter 41 vs) w := by go_simp
theorem kf39 (vs : Array Value) (w : World) : (callFunc 39 vs).run Tryd.prog w = .ok (.enter 39 vs) w := by go_simp
theorem kf40 (vs : Array Value) (w : World) : (callFunc 40 vs).run Tryd.prog w = .ok (.enter 40 vs) w := by go_simp
set_option maxRecDepth 100000 in
set_option maxHeartbeats 1000000 in
theorem masked_any (b : List UInt8) (hb : b.length = 64) (m : UInt8) (w : World) (hT : Tabs w) :
    Calls Tryd.prog 37 #[.agg (bc b).toArray, .int .u8 m.toNat] w fun e w' => e = .returned (.agg (stc (more zeroSt (xk m b))).toArray) ∧ Below w.heap.size w w' := by
  have hts := hT.size
  have hm := m.toNat_lt
  obtain ⟨z, hz⟩ : ∃ z, more zeroSt (xk m b) = z := ⟨_, rfl⟩
  have hzo : z.Ok := by rw [← hz]; exact more_ok _ _ zeroSt_ok
  have HZ : Hid (more zeroSt (xk m b) = z) := hz
  rw [hz]
  obtain ⟨X, hX⟩ : ∃ X : ByteArray, (⟨(xk m b).toArray⟩ : ByteArray) = X := ⟨_, rfl⟩
  have HX : Hid ((⟨(xk m b).toArray⟩ : ByteArray) = X) := hX
  have HXD : Hid (X.data.toList = xk m b) := by show _ = _; rw [← hX]
  have HXL : Hid ((xk m b).length = 64) := by show _ = _; rw [xk_length, hb]
  have HN : Hid (zeroSt.n + X.size ≤ 1099511627776) := by show _ ≤ _; rw [Lib.size_eq, HXD.out, HXL.out]; decide
  clear hz hX
  go_enter Tryd.func37, Tryd.ntmps37
  go_wp2_with (first
    | ((with_reducible refine at_box 73 ?_); refine L_box 73 _ (bc b) rfl ?_; intro w1 h1 hb1)
    | ((with_reducible refine at_alloc 77 ?_); refine L_alloc 77 _ zero77 ?_; intro w2 h2 hb2))
  have n1 : w.heap.size < w1.heap.size := hb1.lt
  have hB : Below w.heap.size w w2 := h2.below (h1.below (Below.refl _ _) (Nat.le_refl _)) h1.size
  have b1 := h2.blk hb1 (by omega)
  clear h1 h2 hb1
  go_loopw [6] (fun i wr => ∃ j : Nat, j ≤ 64 ∧ i = .int .i64 j ∧ Blk wr w.heap.size (bc (mpl m b j)) 73 ∧ Blk wr w1.heap.size (stc zeroSt) 77 ∧ Below w.heap.size w wr) (fun i _ => 64 - (intOf i).toNat)
  case atStart => exact ⟨0, by omega, rfl, by rw [mpl_zero]; exact b1, hb2, hB⟩
  case round =>
    clear b1 hb2 hB
    obtain ⟨j, hj, rfl, c1, c2, hbw⟩ := hrel
    by_cases hlt : j < 64
    · obtain ⟨x, hx⟩ : ∃ x, b.getD j 0 = x := ⟨_, rfl⟩
      have hst : Hid ((mpl m b j).set j (x ^^^ m) = mpl m b (j + 1)) := mpl_step m b j (by omega) x hx
      have r1 := c1.cell j _ (bc_at _ j (by rw [mpl_length]; omega))
      rw [mpl_at m b j (by omega), hx] at r1
      have f1 := c1.frozen j
      have hxo := xor8 x m
      have hxt := x.toNat_lt
      have hxt2 := (x ^^^ m).toNat_lt
      clear hx
      go_wp2_with fail
      obtain ⟨t1, g1⟩ := turn_setCell wr w.heap.size j (.int .u8 ((x ^^^ m).toNat : Int)) _ 73 c1
      rw [bc_set, hst.out] at g1
      exact ⟨⟨j + 1, by omega, by go_num, g1, t1.blk c2 (by omega), t1.below hbw (by omega)⟩, by simp [intOf]; omega⟩
    · obtain rfl : j = 64 := by omega
      rw [mpl_end m b hb] at c1
      have n2 := c2.lt
      go_wp2_with fail
      refine wp_region_inv (by kernel_rfl) (by kernel_rfl) (fun t v wx => Below (w1.heap.size) wr wx ∧ wr.heap.size ≤ wx.heap.size ∧ (t 0 = true → v 0 = .agg (stc zeroSt).toArray) ∧ (t 1 = true → v 1 = .slice (some ⟨w.heap.size, 0, none⟩) 64 64) ∧ (t 2 = true → v 2 = .string X) ∧ (t 3 = true → v 3 = .agg (stc z).toArray) ∧ ((t 4 = false → Blk wx (w1.heap.size) (stc zeroSt) 77) ∧ (t 4 = true → Blk wx (w1.heap.size) (stc z) 77) ∧ (t 4 = true → v 4 = undef))) ?_ ?_ ?_
      · exact ⟨(Below.refl _ _).drew, Nat.le_refl _, (fun h => by cases h), (fun h => by cases h), (fun h => by cases h), (fun h => by cases h), ⟨fun _ => c2, (fun h => by cases h), (fun h => by cases h)⟩⟩
      · simp only [full, Act.put, List.setIfInBounds_toArray, List.set_cons_succ, List.set_cons_zero, Nat.zero_add, Nat.reduceAdd]
        intro i o ho t v wx hS hti hall
        obtain ⟨hB, hsz, k0, k1, k2, k3, k4⟩ := hS
        have hnw : w1.heap.size ≤ wx.heap.size := Nat.le_trans (by omega) hsz
        have hTx : Tabs wx := (hT.below hbw hts).below hB (by omega)
        rcases i with _ | _ | _ | _ | _ | i
        · obtain rfl := Option.some.inj ho
          refine g_call 41 _ _ [] (kf41 _ _) rfl ((new_any wx).mono ?_)
          rintro e w' ⟨rfl, hb⟩
          exact ⟨_, rfl, hB.trans (hb.mono hnw), Nat.le_trans hsz hb.size, newE rfl, keepE (by decide) k1, keepE (by decide) k2, keepE (by decide) k3, ⟨fun h7 => (k4.1 h7).below hb (k4.1 h7).lt, fun h7 => (k4.2.1 h7).below hb (k4.2.1 h7).lt, k4.2.2⟩⟩
        · obtain rfl := Option.some.inj ho
          have hsl := run_slice_all wx w.heap.size 0 64 73 5 Tryd.underlying73 Tryd.sizeOf5
          refine g_val (.slice (some ⟨w.heap.size, 0, none⟩) 64 64) wx (by go_simp) ?_
          exact ⟨hB, hsz, keepE (by decide) k0, newE rfl, keepE (by decide) k2, keepE (by decide) k3, k4⟩
        · obtain rfl := Option.some.inj ho
          have d1 := k1 (hall ⟨1, .data⟩ (by simp) rfl)
          have hcv := blk_string (o := 0) (n := 64) (cap := 64) (c1.below hB (by omega)) (xk m b) HXL.out (by rw [List.drop_zero, List.take_of_length_le (by rw [bc_length]; have := HXL.out; omega)])
          rw [HX.out] at hcv
          refine g_val (.string X) wx (by rw [d1]; go_simp) ?_
          exact ⟨hB, hsz, keepE (by decide) k0, keepE (by decide) k1, newE rfl, keepE (by decide) k3, k4⟩
        · obtain rfl := Option.some.inj ho
          have d0 := k0 (hall ⟨0, .data⟩ (by simp) rfl)
          have d2 := k2 (hall ⟨2, .data⟩ (by simp) rfl)
          refine g_call 39 _ _ [.agg (stc zeroSt).toArray, .string X] (kf39 _ _) (by show [v 0, v 2] = _; rw [d0, d2]; (try rfl)) ((more_any zeroSt X zeroSt_ok wx hTx HN.out).mono ?_)
          rw [HXD.out, HZ.out]
          rintro e w' ⟨rfl, hb⟩
          exact ⟨_, rfl, hB.trans (hb.mono hnw), Nat.le_trans hsz hb.size, keepE (by decide) k0, keepE (by decide) k1, keepE (by decide) k2, newE rfl, ⟨fun h7 => (k4.1 h7).below hb (k4.1 h7).lt, fun h7 => (k4.2.1 h7).below hb (k4.2.1 h7).lt, k4.2.2⟩⟩
        · obtain rfl := Option.some.inj ho
          have d3 := k3 (hall ⟨3, .data⟩ (by simp) rfl)
          refine g_store_all 77 _ _ w1.heap.size (stc z) _ 77 rfl (show v 3 = _ from d3) (k4.1 hti) (zs77 z hzo) (by rw [stc_length z hzo]; rfl) (stc_one _) (fun w' h1 h2 => ?_)
          exact ⟨h1.below hB (by omega), Nat.le_trans hsz h1.size, keepE (by decide) k0, keepE (by decide) k1, keepE (by decide) k2, keepE (by decide) k3, ⟨(fun h7 => by have h8 := setB_self t 4; rw [h7] at h8; cases h8), fun _ => h2, newE rfl⟩⟩
        · simp at ho
      · simp only [full, Act.put, List.setIfInBounds_toArray, List.set_cons_succ, List.set_cons_zero, Nat.zero_add, Nat.reduceAdd]
        intro t v wz hS ht
        obtain ⟨hB, hsz, k0, k1, k2, k3, k4⟩ := hS
        have f4 := k4.2.1 (ht 4 (by decide))
        clear ht k0 k1 k2 k3 k4  
        generalize v 0 = x0
        generalize v 1 = x1
        generalize v 2 = x2
        generalize v 3 = x3
        generalize v 4 = x4
        have hBz : Below w.heap.size w wz := hbw.trans (hB.mono (by omega))
        go_wp2_with fail
        (try simp only [Exit.inBlock, Exit.then])
        exact bodyPost_ret (results_blk rfl w1.heap.size (stc z) _ rfl f4 Tryd.underlying77 rfl (zs77 z hzo)) rfl ⟨rfl, hBz⟩
end Go.Proofs.YtdfpnicpcndkjaaDoor
