/- The program's tags: mac.Tag, Of and Short. -/
import Derived.Test.YtpenicjlpiechaaDoorQShaW5
import Derived.Laws.IdiomCopy
import Derived.Test.YtpenicjlpiechaaDoorQBas
namespace Go.Proofs.YtpenicjlpiechaaDoor
set_option maxRecDepth 10000
open Go.RowKit
set_option linter.unusedVariables false

/-- A fact that no unfolding opens. -/
structure Shut (p : Prop) : Prop where
  out : p
/-- Each byte xored with m. -/
def xk (m : UInt8) (b : List UInt8) : List UInt8 := b.map (· ^^^ m)
/-- A key's bytes, or its digest's. -/
def cutK (k : List UInt8) : List UInt8 := if 64 < k.length then sum k else k
/-- And bytes 0 behind, up to 64. -/
def blkK (k : List UInt8) : List UInt8 := cutK k ++ List.replicate (64 - (cutK k).length) 0
/-- The state behind a key's block. -/
def nearSt (k : List UInt8) : St := more zeroSt (xk 54 (blkK k))
def farSt (k : List UInt8) : St := more zeroSt (xk 92 (blkK k))
def tag (k t : List UInt8) : List UInt8 := sum (xk 92 (blkK k) ++ sum (xk 54 (blkK k) ++ t))
theorem xk_length (m : UInt8) (b : List UInt8) : (xk m b).length = b.length := by simp [xk]
theorem cutK_length (k : List UInt8) : (cutK k).length ≤ 64 := by
  unfold cutK; split
  · rw [sum_length]; decide
  · omega
theorem blkK_length (k : List UInt8) : (blkK k).length = 64 := by
  have := cutK_length k
  rw [blkK, List.length_append, List.length_replicate]; omega
theorem tag_length (k t : List UInt8) : (tag k t).length = 32 := sum_length _
theorem near_ok (k : List UInt8) : (nearSt k).Ok := more_ok _ _ zeroSt_ok
theorem far_ok (k : List UInt8) : (farSt k).Ok := more_ok _ _ zeroSt_ok
theorem near_n (k : List UInt8) : (nearSt k).n = 64 := by rw [nearSt, more_n, xk_length, blkK_length]; rfl
theorem far_n (k : List UInt8) : (farSt k).n = 64 := by rw [farSt, more_n, xk_length, blkK_length]; rfl
theorem near_rep (k : List UInt8) : Rep (xk 54 (blkK k)) (nearSt k) := rep_more [] (xk 54 (blkK k)) _ rep_zero
theorem far_rep (k : List UInt8) : Rep (xk 92 (blkK k)) (farSt k) := rep_more [] (xk 92 (blkK k)) _ rep_zero
theorem near_key (k t : List UInt8) : key (more (nearSt k) t) = sum (xk 54 (blkK k) ++ t) := key_more _ _ _ (near_rep k)
theorem far_key (k t : List UInt8) : key (more (farSt k) (key (more (nearSt k) t))) = tag k t := by rw [near_key, key_more _ _ _ (far_rep k)]; rfl
/-- What masked has laid after j rounds. -/
def mpl (m : UInt8) (b : List UInt8) (j : Nat) : List UInt8 := xk m (b.take j) ++ b.drop j
theorem mpl_zero (m : UInt8) (b : List UInt8) : mpl m b 0 = b := by simp [mpl, xk]
theorem mpl_end (m : UInt8) (b : List UInt8) (h : b.length = 64) : mpl m b 64 = xk m b := by
  rw [mpl, List.take_of_length_le (by omega), List.drop_eq_nil_of_le (by omega), List.append_nil]
theorem mpl_length (m : UInt8) (b : List UInt8) (j : Nat) : (mpl m b j).length = b.length := by
  rw [mpl, List.length_append, xk_length, List.length_take, List.length_drop]; omega
theorem mpl_at (m : UInt8) (b : List UInt8) (j : Nat) (h : j < b.length) : (mpl m b j).getD j 0 = b.getD j 0 := by
  have hl : (xk m (b.take j)).length = j := by rw [xk_length, List.length_take]; omega
  rw [mpl, List.getD_eq_getElem?_getD, List.getElem?_append_right (by omega), hl, Nat.sub_self, List.getElem?_drop, Nat.add_zero, List.getD_eq_getElem?_getD]
theorem mpl_step (m : UInt8) (b : List UInt8) (j : Nat) (h : j < b.length) (x : UInt8) (hx : b.getD j 0 = x) : (mpl m b j).set j (x ^^^ m) = mpl m b (j + 1) := by
  have hl : (xk m (b.take j)).length = j := by rw [xk_length, List.length_take]; omega
  have hx2 : b[j] = x := by rw [← hx]; simp [h]
  rw [mpl, mpl, List.set_append_right _ _ (by omega), hl, Nat.sub_self, List.drop_eq_getElem_cons h, List.set_cons_zero, List.take_succ_eq_append_getElem h, hx2]
  simp [xk]
theorem xor8 (x m : UInt8) : bits .xor .u8 (x.toNat : Int) (m.toNat : Int) = ((x ^^^ m).toNat : Int) := by
  rw [u8_xor_nat _ _ x.toNat_lt m.toNat_lt, UInt8.toNat_xor]
/-- What 'copy' lays of a text of up to 64 bytes over 64 bytes 0. -/
theorem lay_key (k : List UInt8) (h : k.length ≤ 64) : (List.replicate 64 (0 : UInt8)).take 0 ++ k.take k.length ++ (List.replicate 64 (0 : UInt8)).drop (0 + k.length) = k ++ List.replicate (64 - k.length) 0 := by
  rw [List.take_zero, List.nil_append, List.take_length, Nat.zero_add, List.drop_replicate]
end Go.Proofs.YtpenicjlpiechaaDoor
namespace Go.Proofs.YtpenicjlpiechaaDoor
set_option maxRecDepth 10000
open Go.RowKit
set_option linter.unusedVariables false

theorem kf89 (vs : Array Value) (w : World) : (callFunc 89 vs).run Tryd.prog w = .ok (.enter 89 vs) w := by go_simp
theorem kf86 (vs : Array Value) (w : World) : (callFunc 86 vs).run Tryd.prog w = .ok (.enter 86 vs) w := by go_simp
theorem kf87 (vs : Array Value) (w : World) : (callFunc 87 vs).run Tryd.prog w = .ok (.enter 87 vs) w := by go_simp
set_option maxRecDepth 100000 in
set_option maxHeartbeats 1000000 in
theorem masked_any (b : List UInt8) (hb : b.length = 64) (m : UInt8) (w : World) (hT : Tabs w) :
    Calls Tryd.prog 84 #[.agg (bc b).toArray, .int .u8 m.toNat] w fun e w' => e = .returned (.agg (stc (more zeroSt (xk m b))).toArray) ∧ Below w.heap.size w w' := by
  have hts := hT.size
  have hm := m.toNat_lt
  obtain ⟨z, hz⟩ : ∃ z, more zeroSt (xk m b) = z := ⟨_, rfl⟩
  have hzo : z.Ok := by rw [← hz]; exact more_ok _ _ zeroSt_ok
  have HZ : Hid (more zeroSt (xk m b) = z) := hz
  rw [hz]
  obtain ⟨X, hX⟩ : ∃ X : ByteArray, (⟨(xk m b).toArray⟩ : ByteArray) = X := ⟨_, rfl⟩
  have HX : Hid ((⟨(xk m b).toArray⟩ : ByteArray) = X) := hX
  have HXD : Hid (X.data.toList = xk m b) := by show _ = _; rw [← hX]
  have HXL : Hid ((xk m b).length = 64) := by show _ = _; rw [xk_length, hb]
  have HN : Hid (zeroSt.n + X.size ≤ 1099511627776) := by show _ ≤ _; rw [Lib.size_eq, HXD.out, HXL.out]; decide
  clear hz hX
  go_enter Tryd.func84, Tryd.ntmps84
  go_wp2_with (first
    | ((with_reducible refine at_box 132 ?_); refine L_box 132 _ (bc b) rfl ?_; intro w1 h1 hb1)
    | ((with_reducible refine at_alloc 136 ?_); refine L_alloc 136 _ zero136 ?_; intro w2 h2 hb2))
  have n1 : w.heap.size < w1.heap.size := hb1.lt
  have hB : Below w.heap.size w w2 := h2.below (h1.below (Below.refl _ _) (Nat.le_refl _)) h1.size
  have b1 := h2.blk hb1 (by omega)
  clear h1 h2 hb1
  go_loopw [6] (fun i wr => ∃ j : Nat, j ≤ 64 ∧ i = .int .i64 j ∧ Blk wr w.heap.size (bc (mpl m b j)) 132 ∧ Blk wr w1.heap.size (stc zeroSt) 136 ∧ Below w.heap.size w wr) (fun i _ => 64 - (intOf i).toNat)
  case atStart => exact ⟨0, by omega, rfl, by rw [mpl_zero]; exact b1, hb2, hB⟩
  case round =>
    clear b1 hb2 hB
    obtain ⟨j, hj, rfl, c1, c2, hbw⟩ := hrel
    by_cases hlt : j < 64
    · obtain ⟨x, hx⟩ : ∃ x, b.getD j 0 = x := ⟨_, rfl⟩
      have hst : Hid ((mpl m b j).set j (x ^^^ m) = mpl m b (j + 1)) := mpl_step m b j (by omega) x hx
      have r1 := c1.cell j _ (bc_at _ j (by rw [mpl_length]; omega))
      rw [mpl_at m b j (by omega), hx] at r1
      have f1 := c1.frozen j
      have hxo := xor8 x m
      have hxt := x.toNat_lt
      have hxt2 := (x ^^^ m).toNat_lt
      clear hx
      go_wp2_with fail
      obtain ⟨t1, g1⟩ := turn_setCell wr w.heap.size j (.int .u8 ((x ^^^ m).toNat : Int)) _ 132 c1
      rw [bc_set, hst.out] at g1
      exact ⟨⟨j + 1, by omega, by go_num, g1, t1.blk c2 (by omega), t1.below hbw (by omega)⟩, by simp [intOf]; omega⟩
    · obtain rfl : j = 64 := by omega
      rw [mpl_end m b hb] at c1
      have n2 := c2.lt
      go_wp2_with fail
      refine wp_region_inv (by kernel_rfl) (by kernel_rfl) (fun t v wx => Below (w1.heap.size) wr wx ∧ wr.heap.size ≤ wx.heap.size ∧ (t 0 = true → v 0 = .agg (stc zeroSt).toArray) ∧ (t 1 = true → v 1 = .slice (some ⟨w.heap.size, 0, none⟩) 64 64) ∧ (t 2 = true → v 2 = .string X) ∧ (t 3 = true → v 3 = .agg (stc z).toArray) ∧ ((t 4 = false → Blk wx (w1.heap.size) (stc zeroSt) 136) ∧ (t 4 = true → Blk wx (w1.heap.size) (stc z) 136) ∧ (t 4 = true → v 4 = undef))) ?_ ?_ ?_
      · exact ⟨(Below.refl _ _).drew, Nat.le_refl _, (fun h => by cases h), (fun h => by cases h), (fun h => by cases h), (fun h => by cases h), ⟨fun _ => c2, (fun h => by cases h), (fun h => by cases h)⟩⟩
      · simp only [full, Act.put, List.setIfInBounds_toArray, List.set_cons_succ, List.set_cons_zero, Nat.zero_add, Nat.reduceAdd]
        intro i o ho t v wx hS hti hall
        obtain ⟨hB, hsz, k0, k1, k2, k3, k4⟩ := hS
        have hnw : w1.heap.size ≤ wx.heap.size := Nat.le_trans (by omega) hsz
        have hTx : Tabs wx := (hT.below hbw hts).below hB (by omega)
        rcases i with _ | _ | _ | _ | _ | i
        · obtain rfl := Option.some.inj ho
          refine g_call 89 _ _ [] (kf89 _ _) rfl ((new_any wx).mono ?_)
          rintro e w' ⟨rfl, hb⟩
          exact ⟨_, rfl, hB.trans (hb.mono hnw), Nat.le_trans hsz hb.size, newE rfl, keepE (by decide) k1, keepE (by decide) k2, keepE (by decide) k3, ⟨fun h7 => (k4.1 h7).below hb (k4.1 h7).lt, fun h7 => (k4.2.1 h7).below hb (k4.2.1 h7).lt, k4.2.2⟩⟩
        · obtain rfl := Option.some.inj ho
          have hsl := run_slice_all wx w.heap.size 0 64 132 5 Tryd.underlying132 Tryd.sizeOf5
          refine g_val (.slice (some ⟨w.heap.size, 0, none⟩) 64 64) wx (by go_simp) ?_
          exact ⟨hB, hsz, keepE (by decide) k0, newE rfl, keepE (by decide) k2, keepE (by decide) k3, k4⟩
        · obtain rfl := Option.some.inj ho
          have d1 := k1 (hall ⟨1, .data⟩ (by simp) rfl)
          have hcv := blk_string (o := 0) (n := 64) (cap := 64) (c1.below hB (by omega)) (xk m b) HXL.out (by rw [List.drop_zero, List.take_of_length_le (by rw [bc_length]; have := HXL.out; omega)])
          rw [HX.out] at hcv
          refine g_val (.string X) wx (by rw [d1]; go_simp) ?_
          exact ⟨hB, hsz, keepE (by decide) k0, keepE (by decide) k1, newE rfl, keepE (by decide) k3, k4⟩
        · obtain rfl := Option.some.inj ho
          have d0 := k0 (hall ⟨0, .data⟩ (by simp) rfl)
          have d2 := k2 (hall ⟨2, .data⟩ (by simp) rfl)
          refine g_call 86 _ _ [.agg (stc zeroSt).toArray, .string X] (kf86 _ _) (by show [v 0, v 2] = _; rw [d0, d2]; (try rfl)) ((more_any zeroSt X zeroSt_ok wx hTx HN.out).mono ?_)
          rw [HXD.out, HZ.out]
          rintro e w' ⟨rfl, hb⟩
          exact ⟨_, rfl, hB.trans (hb.mono hnw), Nat.le_trans hsz hb.size, keepE (by decide) k0, keepE (by decide) k1, keepE (by decide) k2, newE rfl, ⟨fun h7 => (k4.1 h7).below hb (k4.1 h7).lt, fun h7 => (k4.2.1 h7).below hb (k4.2.1 h7).lt, k4.2.2⟩⟩
        · obtain rfl := Option.some.inj ho
          have d3 := k3 (hall ⟨3, .data⟩ (by simp) rfl)
          refine g_store_all 136 _ _ w1.heap.size (stc z) _ 136 rfl (show v 3 = _ from d3) (k4.1 hti) (zs136 z hzo) (by rw [stc_length z hzo]; rfl) (stc_one _) (fun w' h1 h2 => ?_)
          exact ⟨h1.below hB (by omega), Nat.le_trans hsz h1.size, keepE (by decide) k0, keepE (by decide) k1, keepE (by decide) k2, keepE (by decide) k3, ⟨(fun h7 => by have h8 := setB_self t 4; rw [h7] at h8; cases h8), fun _ => h2, newE rfl⟩⟩
        · simp at ho
      · simp only [full, Act.put, List.setIfInBounds_toArray, List.set_cons_succ, List.set_cons_zero, Nat.zero_add, Nat.reduceAdd]
        intro t v wz hS ht
        obtain ⟨hB, hsz, k0, k1, k2, k3, k4⟩ := hS
        have f4 := k4.2.1 (ht 4 (by decide))
        clear ht k0 k1 k2 k3 k4  
        generalize v 0 = x0
        generalize v 1 = x1
        generalize v 2 = x2
        generalize v 3 = x3
        generalize v 4 = x4
        have hBz : Below w.heap.size w wz := hbw.trans (hB.mono (by omega))
        go_wp2_with fail
        (try simp only [Exit.inBlock, Exit.then])
        exact bodyPost_ret (results_blk rfl w1.heap.size (stc z) _ rfl f4 Tryd.underlying136 rfl (zs136 z hzo)) rfl ⟨rfl, hBz⟩
end Go.Proofs.YtpenicjlpiechaaDoor
namespace Go.Proofs.YtpenicjlpiechaaDoor
set_option maxRecDepth 10000
open Go.RowKit
set_option linter.unusedVariables false

section
variable {P : Program} {a : Act} {w : World} {K : Value → World → Prop} {dst : Option Tmp} {ty : TypeId} {pos : String} {aft : Array Edge} {gd : Option (Nat × Bool)}
/-- 'copy(x, y)', both slices of blocks of one-celled elements, from their beginnings on. -/
theorem g_copy2 (x y : Operand) (dT sT e : TypeId) (b dl dc c sl sc k : Nat) (cs ds : List Value) (bt ct : TypeId) (hx : a.eval x = .slice (some ⟨b, 0, none⟩) dl dc) (hy : a.eval y = .slice (some ⟨c, 0, none⟩) sl sc)
    (hu : P.underlying dT = some (.slice e)) (hs : (P.info? e).map (·.size) = some 1) (hb : Blk w b cs bt) (hc : Blk w c ds ct) (hl : dl ≤ cs.length) (hk : Nat.min sl dl = k) (hds : k ≤ ds.length) (h1 : ∀ v ∈ ds, v.oneCell' = true)
    (r : List Value) (hr : ds.take k ++ cs.drop k = r) (h : ∀ w', Turn b w w' → Blk w' b r bt → K (.int .i64 k) w') :
    gives P ⟨dst, .call { callee := .builtin .copy, args := #[x, y], argTypes := #[dT, sT] }, ty, pos, aft, gd⟩ a w K := by
  have hkl : k ≤ dl := by rw [← hk]; exact Nat.min_le_right _ _
  have htl : (ds.take k).length = k := by rw [List.length_take]; omega
  have hrun := run_copy_cells (P := P) w dT sT ty e b 0 dl dc ⟨c, 0, none⟩ sl sc (ds.take k) hu hs (by rw [htl, hk])
    (fun j v hv => by rw [Addr.add_mid, hc.at, Nat.zero_add]; rw [List.getElem?_take] at hv; split at hv; exact hv; cases hv)
    (fun j hj => ((hb.there 0 k (by omega)) j (by omega)).1) (fun j hj => hb.frozen _) (fun v hv => h1 v (List.mem_of_mem_take hv))
  obtain ⟨h2, h3⟩ := turn_setCells b bt (ds.take k) 0 w cs hb (by omega)
  rw [List.take_zero, List.nil_append, htl, Nat.zero_add, hr] at h3
  unfold gives
  simp only [execOp, resolve, invoke, builtin, List.map_toArray, List.map_cons, List.map_nil, hx, hy, Sem.run_bind, Sem.run_pure, Result.andThen_ok, hrun]
  rw [htl]
  exact h _ h2 h3
end
section
variable {P : Program} {ops : Array Oper} {rest : List Oper} {a : Act} {w : World} {Q : Exit → Act → World → Prop} {ty : TypeId} {pos : String} {aft : Array Edge}
/-- A guard that looks at the slot, too. -/
theorem at_allocD (d : Tmp) (t : TypeId) (h : wpList P ops Q (⟨some d, .alloc t, ty, pos, aft, none⟩ :: rest) a w) : wpList P ops Q (⟨some d, .alloc t, ty, pos, aft, none⟩ :: rest) a w := h
end
theorem size5 : (Tryd.prog.info? 5).map (·.size) = some 1 := by kernel_rfl
theorem zero132 (w : World) : (zeroValue 132).run Tryd.prog w = .ok (.agg (bc (List.replicate 64 0)).toArray) w := Tryd.zeroValue132 w
theorem size132' (l : List UInt8) (h : l.length = 64) : (Tryd.prog.info? 132).map (·.size) = some (bc l).length := by rw [bc_length, h]; exact size132
set_option maxRecDepth 100000 in
set_option maxHeartbeats 1000000 in
theorem mfilled_any (K : ByteArray) (hK : K.size ≤ 549755813888) (w : World) (hT : Tabs w) :
    Calls Tryd.prog 83 #[.string K] w fun e w' => e = .returned (.agg (bc (blkK K.data.toList)).toArray) ∧ Below w.heap.size w w' := by
  have hts := hT.size
  have hKs := Lib.size_eq K
  obtain ⟨Z, hZ⟩ : ∃ Z, blkK K.data.toList = Z := ⟨_, rfl⟩
  rw [hZ]
  have hZl : Z.length = 64 := by rw [← hZ]; exact blkK_length _
  have hz : Hid ((Tryd.prog.info? 132).map (·.size) = some (bc Z).length) := size132' Z hZl
  obtain ⟨Y, hY⟩ : ∃ Y : List UInt8, List.replicate 64 0 = Y := ⟨_, rfl⟩
  have HY : Hid (Y.length = 64) := by show _ = _; rw [← hY]; rfl
  have HY0 : Hid (∀ w, (zeroValue 132).run Tryd.prog w = .ok (.agg (bc Y).toArray) w) := by show ∀ w, _; rw [← hY]; exact zero132
  have HL : Hid ((bc Z).length = (bc Y).length) := by show _ = _; rw [bc_length, hZl, bc_length, HY.out]
  go_enter Tryd.func83, Tryd.ntmps83
  by_cases h64 : 64 < K.size
  · obtain ⟨D, hD⟩ : ∃ D, sum K.data.toList = D := ⟨_, rfl⟩
    have HZ1 : Hid ((bc D).take 32 ++ (bc Y).drop 32 = bc Z) := by
      show _ = _
      rw [← hY, ← hD, ← hZ, blkK, cutK, if_pos (by omega), sum_length, List.take_of_length_le (by rw [bc_length, sum_length]; exact Nat.le_refl _)]
      simp [bc]
    have HD : Hid (D.length = 32) := by show _ = _; rw [← hD, sum_length]
    have HDS : Hid (sum K.data.toList = D) := hD
    clear hZ hKs hD hY
    go_wp2_with (first
      | ((with_reducible refine at_allocD 2 132 ?_); refine L_alloc 132 _ HY0.out ?_; intro w1 h1 hb1)
      | ((with_reducible refine at_allocD 3 132 ?_); refine L_alloc 132 _ HY0.out ?_; intro w2 h2 hb2))
    have n1 : w.heap.size < w1.heap.size := hb1.lt
    have n2 : w1.heap.size < w2.heap.size := hb2.lt
    have hB2 : Below w.heap.size w w2 := h2.below (h1.below (Below.refl _ _) (Nat.le_refl _)) h1.size
    have b1 := h2.blk hb1 (by omega)
    clear h1 h2 hb1
    refine (sum_any K w2 (hT.below hB2 hts) hK).mono ?_; rw [HDS.out]; rintro e w3 ⟨rfl, hb3⟩
    have n3 := hb3.size
    have hB3 : Below w.heap.size w w3 := hB2.trans (hb3.mono (by omega))
    have c1 := b1.below hb3 (by omega)
    have c2 := hb2.below hb3 (by omega)
    clear hB2 hb3 b1 hb2
    go_wp2_with (first
      | ((with_reducible refine at_alloc 113 ?_); refine L_alloc 113 _ zero113 ?_; intro w4 h4 hb4)
      | ((with_reducible refine at_store 113 ?_); refine L_store_all 113 _ _ w3.heap.size (bc D) _ 113 rfl rfl hb4 (zk113 _ HD.out) (by rw [bc_length, HD.out]; rfl) (bc_one _) ?_; intro w5 h5 hb5))
    have hB5 : Below w.heap.size w w5 := h5.below (h4.below hB3 (by omega)) (by omega)
    replace c1 := h5.blk (h4.blk c1 (by omega)) (by omega)
    replace c2 := h5.blk (h4.blk c2 (by omega)) (by omega)
    have n5 := hb5.lt
    clear h4 h5 hb4 hB3
    refine wp_region_inv (by kernel_rfl) (by kernel_rfl) (fun t v wx => Below (w1.heap.size) w5 wx ∧ w5.heap.size ≤ wx.heap.size ∧ Blk wx (w3.heap.size) (bc D) 113 ∧ (t 0 = true → v 0 = .slice (some ⟨w1.heap.size, 0, none⟩) 64 64) ∧ (t 1 = true → v 1 = .slice (some ⟨w3.heap.size, 0, none⟩) 32 32) ∧ ((t 2 = false → Blk wx (w1.heap.size) (bc Y) 132) ∧ (t 2 = true → Blk wx (w1.heap.size) (bc Z) 132) ∧ (t 2 = true → v 2 = .int .i64 32))) ?_ ?_ ?_
    · exact ⟨(Below.refl _ _).drew, Nat.le_refl _, hb5, (fun h => by cases h), (fun h => by cases h), ⟨fun _ => c2, (fun h => by cases h), (fun h => by cases h)⟩⟩
    · simp only [full, Act.put, List.setIfInBounds_toArray, List.set_cons_succ, List.set_cons_zero, Nat.zero_add, Nat.reduceAdd]
      intro i o ho t v wx hS hti hall
      obtain ⟨hB, hsz, q0, k0, k1, k2⟩ := hS
      have hnw : w1.heap.size ≤ wx.heap.size := Nat.le_trans (by omega) hsz
      rcases i with _ | _ | _ | i
      · obtain rfl := Option.some.inj ho
        have hsl := run_slice_all wx w1.heap.size 0 64 132 5 Tryd.underlying132 Tryd.sizeOf5
        refine g_val (.slice (some ⟨w1.heap.size, 0, none⟩) 64 64) wx (by go_simp) ?_
        exact ⟨hB, hsz, q0, newE rfl, keepE (by decide) k1, k2⟩
      · obtain rfl := Option.some.inj ho
        have hsl := run_slice_all wx w3.heap.size 0 32 113 5 Tryd.underlying113 Tryd.sizeOf5
        refine g_val (.slice (some ⟨w3.heap.size, 0, none⟩) 32 32) wx (by go_simp) ?_
        exact ⟨hB, hsz, q0, keepE (by decide) k0, newE rfl, k2⟩
      · obtain rfl := Option.some.inj ho
        have d0 := k0 (hall ⟨0, .data⟩ (by simp) rfl)
        have d1 := k1 (hall ⟨1, .data⟩ (by simp) rfl)
        refine g_copy2 _ _ 48 48 5 w1.heap.size 64 64 w3.heap.size 32 32 32 (bc Y) (bc D) 132 113 (show v 0 = _ from d0) (show v 1 = _ from d1) Tryd.underlying48 size5 (k2.1 hti) q0 (by rw [bc_length, HY.out]; exact Nat.le_refl _) rfl (by rw [bc_length, HD.out]; exact Nat.le_refl _) (bc_one _) _ HZ1.out (fun w' h1 h2 => ?_)
        exact ⟨h1.below hB (by omega), Nat.le_trans hsz h1.size, h1.blk q0 (by omega), keepE (by decide) k0, keepE (by decide) k1, ⟨(fun h7 => by have h8 := setB_self t 2; rw [h7] at h8; cases h8), fun _ => h2, newE rfl⟩⟩
      · simp at ho
    · simp only [full, Act.put, List.setIfInBounds_toArray, List.set_cons_succ, List.set_cons_zero, Nat.zero_add, Nat.reduceAdd]
      intro t v wz hS ht
      obtain ⟨hB, hsz, q0, k0, k1, k2⟩ := hS
      have f2 := k2.2.1 (ht 2 (by decide))
      clear ht k0 k1 k2  
      generalize v 0 = x0
      generalize v 1 = x1
      generalize v 2 = x2
      have c9 := c1.below hB (by omega)
      have hB9 := hB5.trans (hB.mono (by omega))
      go_wp2_with (first
        | ((with_reducible refine at_load 132 ?_); refine L_load_all 132 _ w1.heap.size _ 132 _ rfl f2 Tryd.underlying132 rfl hz.out ?_)
        | ((with_reducible refine at_store 132 ?_); refine L_store_all 132 _ _ w.heap.size (bc Z) _ 132 rfl rfl c9 hz.out HL.out (bc_one _) ?_; intro w8 h8 hb8))
      (try simp only [Exit.inBlock, Exit.then])
      exact bodyPost_ret (results_blk rfl w.heap.size (bc Z) _ rfl hb8 Tryd.underlying132 rfl hz.out) rfl ⟨rfl, h8.below hB9 (Nat.le_refl _)⟩
  · have HZ1 : Hid ((bc Y).take 0 ++ (K.data.toList.take K.size).map (fun c => Value.int .u8 c.toNat) ++ (bc Y).drop (0 + K.size) = bc Z) := by
      show _ = _
      rw [← hY, ← hZ, blkK, cutK, if_neg (by omega), hKs, ← lay_key _ (by omega)]
      simp [bc]
    have hk : min K.size 64 = K.size := by omega
    clear hZ hKs hY
    go_wp2_with (first
      | ((with_reducible refine at_allocD 2 132 ?_); refine L_alloc 132 _ HY0.out ?_; intro w1 h1 hb1)
      | ((with_reducible refine at_allocD 3 132 ?_); refine L_alloc 132 _ HY0.out ?_; intro w2 h2 hb2; have hsl := run_slice_all w2 w1.heap.size 0 64 132 5 Tryd.underlying132 Tryd.sizeOf5)
      | ((with_reducible refine at_copy ?_); refine L_copy _ _ 48 9 5 w1.heap.size 0 64 64 K.size K (bc Y) 132 rfl rfl Tryd.underlying48 Tryd.sizeOf5 hb2 (by rw [bc_length, HY.out]; exact Nat.le_refl _) hk ?_; intro w3 h3 hb3; rw [HZ1.out] at hb3)
      | ((with_reducible refine at_load 132 ?_); refine L_load_all 132 _ w1.heap.size _ 132 _ rfl hb3 Tryd.underlying132 rfl hz.out ?_)
      | ((with_reducible refine at_store 132 ?_); refine L_store_all 132 _ _ w.heap.size (bc Z) _ 132 rfl rfl (h3.blk (h2.blk hb1 (by have := hb1.lt; omega)) (by have := hb1.lt; omega)) hz.out HL.out (bc_one _) ?_; intro w8 h8 hb8))
    have hB3 : Below w.heap.size w w3 := h3.below (h2.below (h1.below (Below.refl _ _) (Nat.le_refl _)) h1.size) h1.size
    (try simp only [Exit.inBlock, Exit.then])
    exact bodyPost_ret (results_blk rfl w.heap.size (bc Z) _ rfl hb8 Tryd.underlying132 rfl hz.out) rfl ⟨rfl, h8.below hB3 (Nat.le_refl _)⟩
end Go.Proofs.YtpenicjlpiechaaDoor
namespace Go.Proofs.YtpenicjlpiechaaDoor
set_option maxRecDepth 10000
open Go.RowKit
set_option linter.unusedVariables false

set_option maxRecDepth 100000 in
set_option maxHeartbeats 1000000 in
theorem maker_any (K : List UInt8) (T : ByteArray) (hTs : T.size ≤ 274877906944) (p q : Nat) (w : World) (hT : Tabs w) (bp : Blk w p (stc (nearSt K)) 136) (bq : Blk w q (stc (farSt K)) 136) :
    Calls Tryd.prog 85 #[.string T, .pointer (some ⟨p, 0, none⟩), .pointer (some ⟨q, 0, none⟩)] w fun e w' => e = .returned (.agg (bc (tag K T.data.toList)).toArray) ∧ Below w.heap.size w w' := by
  have hts := hT.size
  have np := bp.lt
  have nq := bq.lt
  have hTz := Lib.size_eq T
  obtain ⟨R, hR⟩ : ∃ R, tag K T.data.toList = R := ⟨_, rfl⟩
  rw [hR]
  have HRL : Hid (R.length = 32) := by show _ = _; rw [← hR]; exact tag_length _ _
  obtain ⟨S, hS⟩ : ∃ S, more (nearSt K) T.data.toList = S := ⟨_, rfl⟩
  have so : S.Ok := by rw [← hS]; exact more_ok _ _ (near_ok K)
  have sn : S.n = 64 + T.size := by rw [← hS, more_n, near_n, hTz]
  obtain ⟨D, hD⟩ : ∃ D, key S = D := ⟨_, rfl⟩
  have HD : Hid (D.length = 32) := by show _ = _; rw [← hD]; exact key_length _ so
  have HR : Hid (key (more (farSt K) D) = R) := by show _ = _; rw [← hD, ← hS, far_key, hR]
  have HN : Hid ((farSt K).n + (⟨D.toArray⟩ : ByteArray).size ≤ 1099511627776) := by
    show _ ≤ _
    rw [far_n, Lib.size_eq]
    show 64 + D.length ≤ _
    have := HD.out; omega
  have HM : Hid ((more (farSt K) D).n ≤ 549755813888) := by show _ ≤ _; rw [more_n, far_n]; have := HD.out; omega
  have HS : Hid (more (nearSt K) T.data.toList = S) := hS
  have HDK : Hid (key S = D) := hD
  have HSN : Hid (S.n = 64 + T.size) := sn
  have HN1 : Hid ((nearSt K).n + T.size ≤ 1099511627776) := by show _ ≤ _; rw [near_n]; omega
  clear hR hS hD sn hTz
  go_enter Tryd.func85, Tryd.ntmps85
  go_wp2_with (first
    | ((with_reducible refine at_alloc 113 ?_); refine L_alloc 113 _ zero113 ?_; intro w1 h1 hb1)
    | ((with_reducible refine at_load 136 ?_); refine L_load_all 136 _ p _ 136 _ rfl (h1.blk bp (by omega)) Tryd.underlying136 rfl (zs136 _ (near_ok K)) ?_))
  have n1 : w.heap.size < w1.heap.size := hb1.lt
  have hB1 : Below w.heap.size w w1 := h1.below (Below.refl _ _) (Nat.le_refl _)
  have cq := h1.blk bq (by omega)
  clear h1
  refine (more_any (nearSt K) T (near_ok K) w1 (hT.below hB1 hts) HN1.out).mono ?_; rw [HS.out]; rintro e w2 ⟨rfl, hb2⟩
  have n2 := hb2.size
  have hB2 : Below w.heap.size w w2 := hB1.trans (hb2.mono (by omega))
  replace cq := cq.below hb2 (by omega)
  have c2 := hb1.below hb2 (by omega)
  clear hB1 hb1 hb2
  go_wp2_with fail
  refine (key_any S so w2 (hT.below hB2 hts) (by have := HSN.out; omega)).mono ?_; rw [HDK.out]; rintro e w3 ⟨rfl, hb3⟩
  have n3 := hb3.size
  have hB3 : Below w.heap.size w w3 := hB2.trans (hb3.mono (by omega))
  replace cq := cq.below hb3 (by omega)
  replace c2 := c2.below hb3 (by omega)
  clear hB2 hb3
  go_wp2_with (first
    | ((with_reducible refine at_alloc 113 ?_); refine L_alloc 113 _ zero113 ?_; intro w4 h4 hb4)
    | ((with_reducible refine at_store 113 ?_); refine L_store_all 113 _ _ w3.heap.size (bc D) _ 113 rfl rfl hb4 (zk113 D HD.out) (by rw [bc_length, HD.out]; rfl) (bc_one _) ?_; intro w5 h5 hb5))
  have hB5 : Below w.heap.size w w5 := h5.below (h4.below hB3 (by omega)) (by omega)
  replace cq := h5.blk (h4.blk cq (by omega)) (by omega)
  replace c2 := h5.blk (h4.blk c2 (by omega)) (by omega)
  have n5 := hb5.lt
  clear h4 h5 hb4 hB3
  refine wp_region_inv (by kernel_rfl) (by kernel_rfl) (fun t v wx => Below (w.heap.size) w5 wx ∧ w5.heap.size ≤ wx.heap.size ∧ Blk wx (w3.heap.size) (bc D) 113 ∧ (t 0 = true → v 0 = .agg (stc (farSt K)).toArray) ∧ (t 1 = true → v 1 = .slice (some ⟨w3.heap.size, 0, none⟩) 32 32) ∧ (t 2 = true → v 2 = .string ⟨D.toArray⟩) ∧ (t 3 = true → v 3 = .agg (stc (more (farSt K) D)).toArray) ∧ (t 4 = true → v 4 = .agg (bc R).toArray) ∧ ((t 5 = false → Blk wx (w.heap.size) (bc (List.replicate 32 0)) 113) ∧ (t 5 = true → Blk wx (w.heap.size) (bc R) 113) ∧ (t 5 = true → v 5 = undef))) ?_ ?_ ?_
  · exact ⟨(Below.refl _ _).drew, Nat.le_refl _, hb5, (fun h => by cases h), (fun h => by cases h), (fun h => by cases h), (fun h => by cases h), (fun h => by cases h), ⟨fun _ => c2, (fun h => by cases h), (fun h => by cases h)⟩⟩
  · simp only [full, Act.put, List.setIfInBounds_toArray, List.set_cons_succ, List.set_cons_zero, Nat.zero_add, Nat.reduceAdd]
    intro i o ho t v wx hS hti hall
    obtain ⟨hB, hsz, q0, k0, k1, k2, k3, k4, k5⟩ := hS
    have hnw : w.heap.size ≤ wx.heap.size := Nat.le_trans (by omega) hsz
    have hTx : Tabs wx := (hT.below hB5 hts).below hB (by omega)
    rcases i with _ | _ | _ | _ | _ | _ | i
    · obtain rfl := Option.some.inj ho
      refine g_load_all 136 _ (q) (stc (farSt K)) _ _ rfl ((cq.below hB (by omega))) Tryd.underlying136 rfl (zs136 _ (far_ok K)) ?_
      exact ⟨hB, hsz, q0, newE rfl, keepE (by decide) k1, keepE (by decide) k2, keepE (by decide) k3, keepE (by decide) k4, k5⟩
    · obtain rfl := Option.some.inj ho
      have hsl := run_slice_all wx w3.heap.size 0 32 113 5 Tryd.underlying113 Tryd.sizeOf5
      refine g_val (.slice (some ⟨w3.heap.size, 0, none⟩) 32 32) wx (by go_simp) ?_
      exact ⟨hB, hsz, q0, keepE (by decide) k0, newE rfl, keepE (by decide) k2, keepE (by decide) k3, keepE (by decide) k4, k5⟩
    · obtain rfl := Option.some.inj ho
      have d1 := k1 (hall ⟨1, .data⟩ (by simp) rfl)
      have hcv := blk_string (o := 0) (n := 32) (cap := 32) q0 D HD.out (by rw [List.drop_zero, List.take_of_length_le (by rw [bc_length]; have := HD.out; omega)])
      refine g_val (.string ⟨D.toArray⟩) wx (by rw [d1]; go_simp) ?_
      exact ⟨hB, hsz, q0, keepE (by decide) k0, keepE (by decide) k1, newE rfl, keepE (by decide) k3, keepE (by decide) k4, k5⟩
    · obtain rfl := Option.some.inj ho
      have d0 := k0 (hall ⟨0, .data⟩ (by simp) rfl)
      have d2 := k2 (hall ⟨2, .data⟩ (by simp) rfl)
      refine g_call 86 _ _ [.agg (stc (farSt K)).toArray, .string ⟨D.toArray⟩] (kf86 _ _) (by show [v 0, v 2] = _; rw [d0, d2]; (try rfl)) ((more_any (farSt K) ⟨D.toArray⟩ (far_ok K) wx hTx HN.out).mono ?_)
      rintro e w' ⟨rfl, hb⟩
      exact ⟨_, rfl, hB.trans (hb.mono hnw), Nat.le_trans hsz hb.size, q0.below hb q0.lt, keepE (by decide) k0, keepE (by decide) k1, keepE (by decide) k2, newE rfl, keepE (by decide) k4, ⟨fun h7 => (k5.1 h7).below hb (k5.1 h7).lt, fun h7 => (k5.2.1 h7).below hb (k5.2.1 h7).lt, k5.2.2⟩⟩
    · obtain rfl := Option.some.inj ho
      have d3 := k3 (hall ⟨3, .data⟩ (by simp) rfl)
      refine g_call 87 _ _ [.agg (stc (more (farSt K) D)).toArray] (kf87 _ _) (by show [v 3] = _; rw [d3]; (try rfl)) ((key_any (more (farSt K) D) (more_ok _ _ (far_ok K)) wx hTx HM.out).mono ?_)
      rw [HR.out]
      rintro e w' ⟨rfl, hb⟩
      exact ⟨_, rfl, hB.trans (hb.mono hnw), Nat.le_trans hsz hb.size, q0.below hb q0.lt, keepE (by decide) k0, keepE (by decide) k1, keepE (by decide) k2, keepE (by decide) k3, newE rfl, ⟨fun h7 => (k5.1 h7).below hb (k5.1 h7).lt, fun h7 => (k5.2.1 h7).below hb (k5.2.1 h7).lt, k5.2.2⟩⟩
    · obtain rfl := Option.some.inj ho
      have d4 := k4 (hall ⟨4, .data⟩ (by simp) rfl)
      refine g_store_all 113 _ _ w.heap.size (bc R) _ 113 rfl (show v 4 = _ from d4) (k5.1 hti) (zk113 R HRL.out) (by rw [bc_length, HRL.out]; rfl) (bc_one _) (fun w' h1 h2 => ?_)
      exact ⟨h1.below hB (by omega), Nat.le_trans hsz h1.size, h1.blk q0 (by omega), keepE (by decide) k0, keepE (by decide) k1, keepE (by decide) k2, keepE (by decide) k3, keepE (by decide) k4, ⟨(fun h7 => by have h8 := setB_self t 5; rw [h7] at h8; cases h8), fun _ => h2, newE rfl⟩⟩
    · simp at ho
  · simp only [full, Act.put, List.setIfInBounds_toArray, List.set_cons_succ, List.set_cons_zero, Nat.zero_add, Nat.reduceAdd]
    intro t v wz hS ht
    obtain ⟨hB, hsz, q0, k0, k1, k2, k3, k4, k5⟩ := hS
    have f5 := k5.2.1 (ht 5 (by decide))
    clear ht k0 k1 k2 k3 k4 k5  
    generalize v 0 = x0
    generalize v 1 = x1
    generalize v 2 = x2
    generalize v 3 = x3
    generalize v 4 = x4
    generalize v 5 = x5
    have hBz : Below w.heap.size w wz := hB5.trans (hB.mono (by omega))
    go_wp2_with fail
    (try simp only [Exit.inBlock, Exit.then])
    exact bodyPost_ret (results_blk rfl w.heap.size (bc R) _ rfl f5 Tryd.underlying113 rfl (zk113 R HRL.out)) rfl ⟨rfl, hBz⟩
end Go.Proofs.YtpenicjlpiechaaDoor
namespace Go.Proofs.YtpenicjlpiechaaDoor
set_option maxRecDepth 10000
open Go.RowKit
set_option linter.unusedVariables false

theorem kf84 (vs : Array Value) (w : World) : (callFunc 84 vs).run Tryd.prog w = .ok (.enter 84 vs) w := by go_simp
set_option maxRecDepth 100000 in
set_option maxHeartbeats 1000000 in
theorem with_any (K : ByteArray) (hK : K.size ≤ 549755813888) (w : World) (hT : Tabs w) :
    Calls Tryd.prog 79 #[.string K] w fun e w' => ∃ p q : Nat, e = .returned (.func (.func 85) #[] #[.pointer (some ⟨p, 0, none⟩), .pointer (some ⟨q, 0, none⟩)]) ∧ w.heap.size ≤ p ∧ w.heap.size ≤ q ∧
      Blk w' p (stc (nearSt K.data.toList)) 136 ∧ Blk w' q (stc (farSt K.data.toList)) 136 ∧ Below w.heap.size w w' := by
  have hts := hT.size
  obtain ⟨B, hBk⟩ : ∃ B, blkK K.data.toList = B := ⟨_, rfl⟩
  have HB : Hid (B.length = 64) := by show _ = _; rw [← hBk]; exact blkK_length _
  have HNR : Hid (more zeroSt (xk 54 B) = nearSt K.data.toList) := by show _ = _; rw [← hBk]; rfl
  have HFR : Hid (more zeroSt (xk 92 B) = farSt K.data.toList) := by show _ = _; rw [← hBk]; rfl
  have HBK : Hid (blkK K.data.toList = B) := hBk
  clear hBk
  go_enter Tryd.func79, Tryd.ntmps79
  go_wp2_with fail
  refine (mfilled_any K hK w hT).mono ?_; rw [HBK.out]; rintro e w1 ⟨rfl, hb1⟩
  have n1 := hb1.size
  go_wp2_with (first
    | ((with_reducible refine at_alloc 132 ?_); refine L_alloc 132 _ zero132 ?_; intro w3 h3 hb3)
    | ((with_reducible refine at_store 132 ?_); refine L_store_all 132 _ _ w1.heap.size (bc B) _ 132 rfl rfl hb3 (size132' B HB.out) (by rw [bc_length, HB.out]; rfl) (bc_one _) ?_; intro w4 h4 hb4))
  have hB4 : Below w.heap.size w w4 := h4.below (h3.below hb1 (by omega)) (by omega)
  have n4 := hb4.lt
  clear h3 h4 hb3
  refine wp_region_inv (by kernel_rfl) (by kernel_rfl) (fun t v wx => Below (w4.heap.size) w4 wx ∧ w4.heap.size ≤ wx.heap.size ∧ (t 0 = true → v 0 = .agg (bc B).toArray) ∧ (t 1 = true → v 1 = .agg (stc (nearSt K.data.toList)).toArray) ∧ (t 2 = true → v 2 = .agg (bc B).toArray) ∧ (t 3 = true → v 3 = .agg (stc (farSt K.data.toList)).toArray) ∧ (t 4 = true → ∃ p, v 4 = .pointer (some ⟨p, 0, none⟩) ∧ w4.heap.size ≤ p ∧ p < wx.heap.size ∧ (t 6 = false → Blk wx p (stc zeroSt) 136) ∧ (t 6 = true → Blk wx p (stc (nearSt K.data.toList)) 136)) ∧ (t 5 = true → ∃ p, v 5 = .pointer (some ⟨p, 0, none⟩) ∧ w4.heap.size ≤ p ∧ p < wx.heap.size ∧ (t 7 = false → Blk wx p (stc zeroSt) 136) ∧ (t 7 = true → Blk wx p (stc (farSt K.data.toList)) 136)) ∧ (t 6 = true → t 4 = true) ∧ (t 7 = true → t 5 = true) ∧ (t 4 = true → t 5 = true → v 4 ≠ v 5)) ?_ ?_ ?_
  · exact ⟨(Below.refl _ _).drew, Nat.le_refl _, (fun h => by cases h), (fun h => by cases h), (fun h => by cases h), (fun h => by cases h), (fun h => by cases h), (fun h => by cases h), (fun h => by cases h), (fun h => by cases h), (fun h => by cases h)⟩
  · simp only [full, Act.put, List.setIfInBounds_toArray, List.set_cons_succ, List.set_cons_zero, Nat.zero_add, Nat.reduceAdd]
    intro i o ho t v wx hS hti hall
    obtain ⟨hB, hsz, k0, k1, k2, k3, k4, k5, k6, k7, n4_5⟩ := hS
    have hnw : w4.heap.size ≤ wx.heap.size := Nat.le_trans (by omega) hsz
    have hTx : Tabs wx := (hT.below hB4 hts).below hB (by omega)
    rcases i with _ | _ | _ | _ | _ | _ | _ | _ | i
    · obtain rfl := Option.some.inj ho
      refine g_load_all 132 _ (w1.heap.size) (bc B) _ _ rfl ((hb4.below hB (by omega))) Tryd.underlying132 rfl (size132' B HB.out) ?_
      exact ⟨hB, hsz, newE rfl, keepE (by decide) k1, keepE (by decide) k2, keepE (by decide) k3, k4, k5, k6, k7, n4_5⟩
    · obtain rfl := Option.some.inj ho
      have d0 := k0 (hall ⟨0, .data⟩ (by simp) rfl)
      refine g_call 84 _ _ [.agg (bc B).toArray, .int .u8 54] (kf84 _ _) (by show [v 0, _] = _; rw [d0]; (try rfl)) ((masked_any B HB.out 54 wx hTx).mono ?_)
      rw [HNR.out]
      rintro e w' ⟨rfl, hb⟩
      exact ⟨_, rfl, hB.trans (hb.mono hnw), Nat.le_trans hsz hb.size, keepE (by decide) k0, newE rfl, keepE (by decide) k2, keepE (by decide) k3, (fun ht => by obtain ⟨p, e1, e2, e5, e3, e4⟩ := k4 ht; exact ⟨p, e1, e2, Nat.lt_of_lt_of_le e5 hb.size, fun h7 => (e3 h7).below hb e5, fun h7 => (e4 h7).below hb e5⟩), (fun ht => by obtain ⟨p, e1, e2, e5, e3, e4⟩ := k5 ht; exact ⟨p, e1, e2, Nat.lt_of_lt_of_le e5 hb.size, fun h7 => (e3 h7).below hb e5, fun h7 => (e4 h7).below hb e5⟩), k6, k7, n4_5⟩
    · obtain rfl := Option.some.inj ho
      refine g_load_all 132 _ (w1.heap.size) (bc B) _ _ rfl ((hb4.below hB (by omega))) Tryd.underlying132 rfl (size132' B HB.out) ?_
      exact ⟨hB, hsz, keepE (by decide) k0, keepE (by decide) k1, newE rfl, keepE (by decide) k3, k4, k5, k6, k7, n4_5⟩
    · obtain rfl := Option.some.inj ho
      have d2 := k2 (hall ⟨2, .data⟩ (by simp) rfl)
      refine g_call 84 _ _ [.agg (bc B).toArray, .int .u8 92] (kf84 _ _) (by show [v 2, _] = _; rw [d2]; (try rfl)) ((masked_any B HB.out 92 wx hTx).mono ?_)
      rw [HFR.out]
      rintro e w' ⟨rfl, hb⟩
      exact ⟨_, rfl, hB.trans (hb.mono hnw), Nat.le_trans hsz hb.size, keepE (by decide) k0, keepE (by decide) k1, keepE (by decide) k2, newE rfl, (fun ht => by obtain ⟨p, e1, e2, e5, e3, e4⟩ := k4 ht; exact ⟨p, e1, e2, Nat.lt_of_lt_of_le e5 hb.size, fun h7 => (e3 h7).below hb e5, fun h7 => (e4 h7).below hb e5⟩), (fun ht => by obtain ⟨p, e1, e2, e5, e3, e4⟩ := k5 ht; exact ⟨p, e1, e2, Nat.lt_of_lt_of_le e5 hb.size, fun h7 => (e3 h7).below hb e5, fun h7 => (e4 h7).below hb e5⟩), k6, k7, n4_5⟩
    · obtain rfl := Option.some.inj ho
      refine g_alloc 136 _ zero136 (fun w' h1 h2 => ?_)
      exact ⟨h1.below hB hnw, Nat.le_trans hsz h1.size, keepE (by decide) k0, keepE (by decide) k1, keepE (by decide) k2, keepE (by decide) k3, (fun ht => ⟨wx.heap.size, setV_self _ _ _, hsz, h2.lt, fun _ => h2, fun h7 => by have h6 := k6 h7; rw [hti] at h6; cases h6⟩), (fun ht => by obtain ⟨p, e1, e2, e5, e3, e4⟩ := k5 ht; exact ⟨p, e1, e2, Nat.lt_of_lt_of_le e5 h1.size, fun h7 => h1.blk (e3 h7) (by omega), fun h7 => h1.blk (e4 h7) (by omega)⟩), (fun _ => setB_self _ _), k7, (fun h h' => by obtain ⟨p', f1, f2, f5, -⟩ := k5 h'; intro hh; rw [setV_self] at hh; have hh2 := hh.trans f1; simp only [Value.pointer.injEq, Option.some.injEq, Addr.mk.injEq] at hh2; omega)⟩
    · obtain rfl := Option.some.inj ho
      refine g_alloc 136 _ zero136 (fun w' h1 h2 => ?_)
      exact ⟨h1.below hB hnw, Nat.le_trans hsz h1.size, keepE (by decide) k0, keepE (by decide) k1, keepE (by decide) k2, keepE (by decide) k3, (fun ht => by obtain ⟨p, e1, e2, e5, e3, e4⟩ := k4 ht; exact ⟨p, e1, e2, Nat.lt_of_lt_of_le e5 h1.size, fun h7 => h1.blk (e3 h7) (by omega), fun h7 => h1.blk (e4 h7) (by omega)⟩), (fun ht => ⟨wx.heap.size, setV_self _ _ _, hsz, h2.lt, fun _ => h2, fun h7 => by have h6 := k7 h7; rw [hti] at h6; cases h6⟩), k6, (fun _ => setB_self _ _), (fun h h' => by obtain ⟨p', f1, f2, f5, -⟩ := k4 h; intro hh; rw [setV_self] at hh; have hh2 := f1.symm.trans hh; simp only [Value.pointer.injEq, Option.some.injEq, Addr.mk.injEq] at hh2; omega)⟩
    · obtain rfl := Option.some.inj ho
      have ht6 := hall ⟨4, .data⟩ (by simp) rfl
      have d1 := k1 (hall ⟨1, .data⟩ (by simp) rfl)
      obtain ⟨p, e1, e2, e5, e3, e4⟩ := k4 ht6
      refine g_store_all 136 _ _ p (stc (nearSt K.data.toList)) _ 136 (show v 4 = _ from e1) (show v 1 = _ from d1) (e3 hti) (zs136 _ (near_ok _)) (by rw [stc_length _ (near_ok _)]; rfl) (stc_one _) (fun w' h1 h2 => ?_)
      exact ⟨h1.below hB (by omega), Nat.le_trans hsz h1.size, keepE (by decide) k0, keepE (by decide) k1, keepE (by decide) k2, keepE (by decide) k3, (fun ht => ⟨p, e1, e2, Nat.lt_of_lt_of_le e5 h1.size, (fun h7 => by have h8 := setB_self t 6; rw [h7] at h8; cases h8), fun _ => h2⟩), (fun ht => by obtain ⟨p', f1, f2, f5, f3, f4⟩ := k5 ht; have hne : p' ≠ p := (by intro h; have := n4_5 ht6 ht; apply this; rw [e1, f1, h]); exact ⟨p', f1, f2, Nat.lt_of_lt_of_le f5 h1.size, fun h7 => h1.blk (f3 h7) hne, fun h7 => h1.blk (f4 h7) hne⟩), (fun _ => ht6), k7, n4_5⟩
    · obtain rfl := Option.some.inj ho
      have ht6 := hall ⟨5, .data⟩ (by simp) rfl
      have d3 := k3 (hall ⟨3, .data⟩ (by simp) rfl)
      obtain ⟨p, e1, e2, e5, e3, e4⟩ := k5 ht6
      refine g_store_all 136 _ _ p (stc (farSt K.data.toList)) _ 136 (show v 5 = _ from e1) (show v 3 = _ from d3) (e3 hti) (zs136 _ (far_ok _)) (by rw [stc_length _ (far_ok _)]; rfl) (stc_one _) (fun w' h1 h2 => ?_)
      exact ⟨h1.below hB (by omega), Nat.le_trans hsz h1.size, keepE (by decide) k0, keepE (by decide) k1, keepE (by decide) k2, keepE (by decide) k3, (fun ht => by obtain ⟨p', f1, f2, f5, f3, f4⟩ := k4 ht; have hne : p' ≠ p := (by intro h; have := n4_5 ht ht6; apply this; rw [e1, f1, h]); exact ⟨p', f1, f2, Nat.lt_of_lt_of_le f5 h1.size, fun h7 => h1.blk (f3 h7) hne, fun h7 => h1.blk (f4 h7) hne⟩), (fun ht => ⟨p, e1, e2, Nat.lt_of_lt_of_le e5 h1.size, (fun h7 => by have h8 := setB_self t 7; rw [h7] at h8; cases h8), fun _ => h2⟩), k6, (fun _ => ht6), n4_5⟩
    · simp at ho
  · simp only [full, Act.put, List.setIfInBounds_toArray, List.set_cons_succ, List.set_cons_zero, Nat.zero_add, Nat.reduceAdd]
    intro t v wz hS ht
    obtain ⟨hB, hsz, k0, k1, k2, k3, k4, k5, k6, k7, n4_5⟩ := hS
    obtain ⟨p4, e4, g4, -, -, f4⟩ := k4 (ht 4 (by decide)); replace f4 := f4 (ht 6 (by decide))
    obtain ⟨p5, e5, g5, -, -, f5⟩ := k5 (ht 5 (by decide)); replace f5 := f5 (ht 7 (by decide))
    have n45 : p4 ≠ p5 := (by intro h; apply n4_5 (ht 4 (by decide)) (ht 5 (by decide)); rw [e4, e5, h])
    rw [e4]
    rw [e5]
    clear ht k0 k1 k2 k3 k4 k5 k6 k7 e4 e5 n4_5
    generalize v 0 = x0
    generalize v 1 = x1
    generalize v 2 = x2
    generalize v 3 = x3
    generalize v 6 = x6
    generalize v 7 = x7
    have hBz : Below w.heap.size w wz := hB4.trans (hB.mono (by omega))
    go_wp2_with fail
    go_ret
    exact ⟨p4, p5, rfl, by omega, by omega, f4, f5, hBz⟩
end Go.Proofs.YtpenicjlpiechaaDoor
namespace Go.Proofs.YtpenicjlpiechaaDoor
set_option maxRecDepth 10000
open Go.RowKit
set_option linter.unusedVariables false

set_option maxRecDepth 100000 in
set_option maxHeartbeats 1000000 in
theorem tag_any (K T : ByteArray) (hK : K.size ≤ 549755813888) (hTs : T.size ≤ 274877906944) (w : World) (hT : Tabs w) :
    Calls Tryd.prog 67 #[.string K, .string T] w fun e w' => e = .returned (.agg (bc (tag K.data.toList T.data.toList)).toArray) ∧ Below w.heap.size w w' := by
  have hts := hT.size
  obtain ⟨R, hR⟩ : ∃ R, tag K.data.toList T.data.toList = R := ⟨_, rfl⟩
  rw [hR]
  have HRL : Hid (R.length = 32) := by show _ = _; rw [← hR]; exact tag_length _ _
  have HR : Hid (tag K.data.toList T.data.toList = R) := hR
  clear hR
  go_enter Tryd.func67, Tryd.ntmps67
  go_wp2_with (first
    | ((with_reducible refine at_alloc 113 ?_); refine L_alloc 113 _ zero113 ?_; intro w1 h1 hb1))
  have n1 : w.heap.size < w1.heap.size := hb1.lt
  have hB1 : Below w.heap.size w w1 := h1.below (Below.refl _ _) (Nat.le_refl _)
  clear h1
  refine (with_any K hK w1 (hT.below hB1 hts)).mono ?_; rintro e w2 ⟨p, q, rfl, hp, hq, bp, bq, hb2⟩
  have n2 := hb2.size
  have hB2 : Below w.heap.size w w2 := hB1.trans (hb2.mono (by omega))
  have c2 := hb1.below hb2 (by omega)
  clear hB1 hb1 hb2
  go_wp2_with fail
  refine (maker_any K.data.toList T hTs p q w2 (hT.below hB2 hts) bp bq).mono ?_; rw [HR.out]; rintro e w3 ⟨rfl, hb3⟩
  have n3 := hb3.size
  have hB3 : Below w.heap.size w w3 := hB2.trans (hb3.mono (by omega))
  have c3 := c2.below hb3 (by omega)
  go_wp2_with (first
    | ((with_reducible refine at_store 113 ?_); refine L_store_all 113 _ _ w.heap.size (bc R) _ 113 rfl rfl c3 (zk113 R HRL.out) (by rw [bc_length, HRL.out]; rfl) (bc_one _) ?_; intro w8 h8 hb8))
  (try simp only [Exit.inBlock, Exit.then])
  exact bodyPost_ret (results_blk rfl w.heap.size (bc R) _ rfl hb8 Tryd.underlying113 rfl (zk113 R HRL.out)) rfl ⟨rfl, h8.below hB3 (Nat.le_refl _)⟩
end Go.Proofs.YtpenicjlpiechaaDoor
namespace Go.Proofs.YtpenicjlpiechaaDoor
set_option maxRecDepth 10000
open Go Go.RowKit
set_option linter.unusedVariables false
/-- 'x[:hi]'. -/
theorem run_slice_h {P : Program} (w : World) (b o n hi : Nat) (h : Int) (t e : TypeId) (hu : P.underlying t = some (.array n e)) (hs : ∀ w, (sizeOf e).run P w = .ok 1 w) (hh : h = hi) (h2 : hi ≤ n) (h0 : 0 < n) :
    (Instr.sliceAt t (.pointer (some ⟨b, o, none⟩)) none (some (.int .i64 h)) none).run P w = .ok (.slice (some ⟨b, o, none⟩) hi n) w := by
  subst hh
  have e1 : ¬ n = 0 := by omega
  simp [Instr.sliceAt, Instr.sureAddr, run_underlying hu, Instr.sliceBounds, run_sliceBound, hs, h2, Addr.add_mid]
/-- How many bytes are told of so many. -/
def cutN (n : Int) : Nat := (min (max n 0) 32).toNat
theorem cutN_le (n : Int) : cutN n ≤ 32 := by unfold cutN; omega
/-- A tag's first bytes. -/
def fst (K T : ByteArray) (n : Int) : ByteArray := ⟨((tag K.data.toList T.data.toList).take (cutN n)).toArray⟩
theorem fst_size (K T : ByteArray) (n : Int) : (fst K T n).size = cutN n := by
  have := cutN_le n
  show (Array.size _) = _
  simp [tag_length]; omega
set_option maxRecDepth 100000 in
set_option maxHeartbeats 1000000 in
theorem short_any (K T : ByteArray) (n : Int) (hK : K.size ≤ 549755813888) (hTs : T.size ≤ 274877906944) (w : World) (hT : Tabs w) :
    Calls Tryd.prog 46 #[.string K, .string T, .int .i64 n] w fun e w' => e = .returned (.string (fst K T n)) ∧ Below w.heap.size w w' := by
  have hts := hT.size
  obtain ⟨m, hm⟩ : ∃ m, cutN n = m := ⟨_, rfl⟩
  obtain ⟨R, hR⟩ : ∃ R, tag K.data.toList T.data.toList = R := ⟨_, rfl⟩
  have HRL : Hid (R.length = 32) := by show _ = _; rw [← hR]; exact tag_length _ _
  have HR : Hid (tag K.data.toList T.data.toList = R) := hR
  unfold fst
  rw [hm, hR]
  have hm32 : m ≤ 32 := by rw [← hm]; exact cutN_le n
  have HMM : Hid (min (max n 0) 32 = (m : Int)) := by show _ = _; rw [← hm]; unfold cutN; omega
  clear hR hm
  go_enter Tryd.func46, Tryd.ntmps46
  go_wp2_with fail
  refine (tag_any K T hK hTs w hT).mono ?_; rw [HR.out]; rintro e w1 ⟨rfl, hb1⟩
  have n1 := hb1.size
  have hml : Hid ((R.take m).length = m) := by show _ = _; rw [List.length_take, HRL.out]; omega
  go_wp2_with (first
    | ((with_reducible refine at_alloc 113 ?_); refine L_alloc 113 _ zero113 ?_; intro w2 h2 hb2)
    | ((with_reducible refine at_store 113 ?_); refine L_store_all 113 _ _ w1.heap.size (bc R) _ 113 rfl rfl hb2 (zk113 R HRL.out) (by rw [bc_length, HRL.out]; rfl) (bc_one _) ?_; intro w3 h3 hb3)
    | ((with_reducible refine stop_list 12 ?_); intro X hX))
  have hmm := HMM.out
  have hsl := run_slice_h w3 w1.heap.size 0 32 m m 113 5 Tryd.underlying113 Tryd.sizeOf5 rfl hm32 (by decide)
  have hcv := blk_string (o := 0) (n := m) (cap := 32) hb3 (R.take m) hml.out (by rw [List.drop_zero, bc, bc, List.map_take])
  have hB3 : Below w.heap.size w w3 := h3.below (h2.below hb1 n1) n1
  clear h2 h3 hb1 hb2 hb3 hml HMM
  refine hX.out ?_
  clear hX
  go_wp2_with fail
  go_ret
  exact ⟨rfl, hB3⟩
end Go.Proofs.YtpenicjlpiechaaDoor
