/- What the program's mac.filled answers: a key's bytes, or its digest's, and bytes 0 behind. -/
import Derived.Test.YtdfpnicpcndkjaaDoorMacW1
import Derived.Laws.IdiomCopy
namespace Go.Proofs.YtdfpnicpcndkjaaDoor
set_option maxRecDepth 10000
open Go.RowKit
set_option linter.unusedVariables false

section
variable {P : Program} {a : Act} {w : World} {K : Value → World → Prop} {dst : Option Tmp} {ty : TypeId} {pos : String} {aft : Array Edge} {gd : Option (Nat × Bool)}
/-- 'copy(x, y)', both slices of blocks of one-celled elements, from their beginnings on. -/
theorem g_copy2 (x y : Operand) (dT sT e : TypeId) (b dl dc c sl sc k : Nat) (cs ds : List Value) (bt ct : TypeId) (hx : a.eval x = .slice (some ⟨b, 0, none⟩) dl dc) (hy : a.eval y = .slice (some ⟨c, 0, none⟩) sl sc)
    (hu : P.underlying dT = some (.slice e)) (hs : (P.info? e).map (·.size) = some 1) (hb : Blk w b cs bt) (hc : Blk w c ds ct) (hl : dl ≤ cs.length) (hk : Nat.min sl dl = k) (hds : k ≤ ds.length) (h1 : ∀ v ∈ ds, v.oneCell' = true)
    (r : List Value) (hr : ds.take k ++ cs.drop k = r) (h : ∀ w', Turn b w w' → Blk w' b r bt → K (.int .i64 k) w') :
    gives P ⟨dst, .call { callee := .builtin .copy, args := #[x, y], argTypes := #[dT, sT] }, ty, pos, aft, gd⟩ a w K := by
  have hkl : k ≤ dl := by rw [← hk]; exact Nat.min_le_right _ _
  have htl : (ds.take k).length = k := by rw [List.length_take]; omega
  have hrun := run_copy_cells (P := P) w dT sT ty e b 0 dl dc ⟨c, 0, none⟩ sl sc (ds.take k) hu hs (by rw [htl, hk])
    (fun j v hv => by rw [Addr.add_mid, hc.at, Nat.zero_add]; rw [List.getElem?_take] at hv; split at hv; exact hv; cases hv)
    (fun j hj => ((hb.there 0 k (by omega)) j (by omega)).1) (fun j hj => hb.frozen _) (fun v hv => h1 v (List.mem_of_mem_take hv))
  obtain ⟨h2, h3⟩ := turn_setCells b bt (ds.take k) 0 w cs hb (by omega)
  rw [List.take_zero, List.nil_append, htl, Nat.zero_add, hr] at h3
  unfold gives
  simp only [execOp, resolve, invoke, builtin, List.map_toArray, List.map_cons, List.map_nil, hx, hy, Sem.run_bind, Sem.run_pure, Result.andThen_ok, hrun]
  rw [htl]
  exact h _ h2 h3
end
section
variable {P : Program} {ops : Array Oper} {rest : List Oper} {a : Act} {w : World} {Q : Exit → Act → World → Prop} {ty : TypeId} {pos : String} {aft : Array Edge}
/-- A guard that looks at the slot, too. -/
theorem at_allocD (d : Tmp) (t : TypeId) (h : wpList P ops Q (⟨some d, .alloc t, ty, pos, aft, none⟩ :: rest) a w) : wpList P ops Q (⟨some d, .alloc t, ty, pos, aft, none⟩ :: rest) a w := h
end
theorem size5 : (Tryd.prog.info? 5).map (·.size) = some 1 := by kernel_rfl
theorem zero73 (w : World) : (zeroValue 73).run Tryd.prog w = .ok (.agg (bc (List.replicate 64 0)).toArray) w := Tryd.zeroValue73 w
theorem size73' (l : List UInt8) (h : l.length = 64) : (Tryd.prog.info? 73).map (·.size) = some (bc l).length := by rw [bc_length, h]; exact size73
set_option maxRecDepth 100000 in
set_option maxHeartbeats 1000000 in
theorem mfilled_any (K : ByteArray) (hK : K.size ≤ 549755813888) (w : World) (hT : Tabs w) :
    Calls Tryd.prog 36 #[.string K] w fun e w' => e = .returned (.agg (bc (blkK K.data.toList)).toArray) ∧ Below w.heap.size w w' := by
  have hts := hT.size
  have hKs := Lib.size_eq K
  obtain ⟨Z, hZ⟩ : ∃ Z, blkK K.data.toList = Z := ⟨_, rfl⟩
  rw [hZ]
  have hZl : Z.length = 64 := by rw [← hZ]; exact blkK_length _
  have hz : Hid ((Tryd.prog.info? 73).map (·.size) = some (bc Z).length) := size73' Z hZl
  obtain ⟨Y, hY⟩ : ∃ Y : List UInt8, List.replicate 64 0 = Y := ⟨_, rfl⟩
  have HY : Hid (Y.length = 64) := by show _ = _; rw [← hY]; rfl
  have HY0 : Hid (∀ w, (zeroValue 73).run Tryd.prog w = .ok (.agg (bc Y).toArray) w) := by show ∀ w, _; rw [← hY]; exact zero73
  have HL : Hid ((bc Z).length = (bc Y).length) := by show _ = _; rw [bc_length, hZl, bc_length, HY.out]
  go_enter Tryd.func36, Tryd.ntmps36
  by_cases h64 : 64 < K.size
  · obtain ⟨D, hD⟩ : ∃ D, sum K.data.toList = D := ⟨_, rfl⟩
    have HZ1 : Hid ((bc D).take 32 ++ (bc Y).drop 32 = bc Z) := by
      show _ = _
      rw [← hY, ← hD, ← hZ, blkK, cutK, if_pos (by omega), sum_length, List.take_of_length_le (by rw [bc_length, sum_length]; exact Nat.le_refl _)]
      simp [bc]
    have HD : Hid (D.length = 32) := by show _ = _; rw [← hD, sum_length]
    have HDS : Hid (sum K.data.toList = D) := hD
    clear hZ hKs hD hY
    go_wp2_with (first
      | ((with_reducible refine at_allocD 2 73 ?_); refine L_alloc 73 _ HY0.out ?_; intro w1 h1 hb1)
      | ((with_reducible refine at_allocD 3 73 ?_); refine L_alloc 73 _ HY0.out ?_; intro w2 h2 hb2))
    have n1 : w.heap.size < w1.heap.size := hb1.lt
    have n2 : w1.heap.size < w2.heap.size := hb2.lt
    have hB2 : Below w.heap.size w w2 := h2.below (h1.below (Below.refl _ _) (Nat.le_refl _)) h1.size
    have b1 := h2.blk hb1 (by omega)
    clear h1 h2 hb1
    refine (sum_any K w2 (hT.below hB2 hts) hK).mono ?_; rw [HDS.out]; rintro e w3 ⟨rfl, hb3⟩
    have n3 := hb3.size
    have hB3 : Below w.heap.size w w3 := hB2.trans (hb3.mono (by omega))
    have c1 := b1.below hb3 (by omega)
    have c2 := hb2.below hb3 (by omega)
    clear hB2 hb3 b1 hb2
    go_wp2_with (first
      | ((with_reducible refine at_alloc 23 ?_); refine L_alloc 23 _ zero23 ?_; intro w4 h4 hb4)
      | ((with_reducible refine at_store 23 ?_); refine L_store_all 23 _ _ w3.heap.size (bc D) _ 23 rfl rfl hb4 (zk23 _ HD.out) (by rw [bc_length, HD.out]; rfl) (bc_one _) ?_; intro w5 h5 hb5))
    have hB5 : Below w.heap.size w w5 := h5.below (h4.below hB3 (by omega)) (by omega)
    replace c1 := h5.blk (h4.blk c1 (by omega)) (by omega)
    replace c2 := h5.blk (h4.blk c2 (by omega)) (by omega)
    have n5 := hb5.lt
    clear h4 h5 hb4 hB3
    refine wp_region_inv (by kernel_rfl) (by kernel_rfl) (fun t v wx => Below (w1.heap.size) w5 wx ∧ w5.heap.size ≤ wx.heap.size ∧ Blk wx (w3.heap.size) (bc D) 23 ∧ (t 0 = true → v 0 = .slice (some ⟨w1.heap.size, 0, none⟩) 64 64) ∧ (t 1 = true → v 1 = .slice (some ⟨w3.heap.size, 0, none⟩) 32 32) ∧ ((t 2 = false → Blk wx (w1.heap.size) (bc Y) 73) ∧ (t 2 = true → Blk wx (w1.heap.size) (bc Z) 73) ∧ (t 2 = true → v 2 = .int .i64 32))) ?_ ?_ ?_
    · exact ⟨(Below.refl _ _).drew, Nat.le_refl _, hb5, (fun h => by cases h), (fun h => by cases h), ⟨fun _ => c2, (fun h => by cases h), (fun h => by cases h)⟩⟩
    · simp only [full, Act.put, List.setIfInBounds_toArray, List.set_cons_succ, List.set_cons_zero, Nat.zero_add, Nat.reduceAdd]
      intro i o ho t v wx hS hti hall
      obtain ⟨hB, hsz, q0, k0, k1, k2⟩ := hS
      have hnw : w1.heap.size ≤ wx.heap.size := Nat.le_trans (by omega) hsz
      rcases i with _ | _ | _ | i
      · obtain rfl := Option.some.inj ho
        have hsl := run_slice_all wx w1.heap.size 0 64 73 5 Tryd.underlying73 Tryd.sizeOf5
        refine g_val (.slice (some ⟨w1.heap.size, 0, none⟩) 64 64) wx (by go_simp) ?_
        exact ⟨hB, hsz, q0, newE rfl, keepE (by decide) k1, k2⟩
      · obtain rfl := Option.some.inj ho
        have hsl := run_slice_all wx w3.heap.size 0 32 23 5 Tryd.underlying23 Tryd.sizeOf5
        refine g_val (.slice (some ⟨w3.heap.size, 0, none⟩) 32 32) wx (by go_simp) ?_
        exact ⟨hB, hsz, q0, keepE (by decide) k0, newE rfl, k2⟩
      · obtain rfl := Option.some.inj ho
        have d0 := k0 (hall ⟨0, .data⟩ (by simp) rfl)
        have d1 := k1 (hall ⟨1, .data⟩ (by simp) rfl)
        refine g_copy2 _ _ 57 57 5 w1.heap.size 64 64 w3.heap.size 32 32 32 (bc Y) (bc D) 73 23 (show v 0 = _ from d0) (show v 1 = _ from d1) Tryd.underlying57 size5 (k2.1 hti) q0 (by rw [bc_length, HY.out]; exact Nat.le_refl _) rfl (by rw [bc_length, HD.out]; exact Nat.le_refl _) (bc_one _) _ HZ1.out (fun w' h1 h2 => ?_)
        exact ⟨h1.below hB (by omega), Nat.le_trans hsz h1.size, h1.blk q0 (by omega), keepE (by decide) k0, keepE (by decide) k1, ⟨(fun h7 => by have h8 := setB_self t 2; rw [h7] at h8; cases h8), fun _ => h2, newE rfl⟩⟩
      · simp at ho
    · simp only [full, Act.put, List.setIfInBounds_toArray, List.set_cons_succ, List.set_cons_zero, Nat.zero_add, Nat.reduceAdd]
      intro t v wz hS ht
      obtain ⟨hB, hsz, q0, k0, k1, k2⟩ := hS
      have f2 := k2.2.1 (ht 2 (by decide))
      clear ht k0 k1 k2  
      generalize v 0 = x0
      generalize v 1 = x1
      generalize v 2 = x2
      have c9 := c1.below hB (by omega)
      have hB9 := hB5.trans (hB.mono (by omega))
      go_wp2_with (first
        | ((with_reducible refine at_load 73 ?_); refine L_load_all 73 _ w1.heap.size _ 73 _ rfl f2 Tryd.underlying73 rfl hz.out ?_)
        | ((with_reducible refine at_store 73 ?_); refine L_store_all 73 _ _ w.heap.size (bc Z) _ 73 rfl rfl c9 hz.out HL.out (bc_one _) ?_; intro w8 h8 hb8))
      (try simp only [Exit.inBlock, Exit.then])
      exact bodyPost_ret (results_blk rfl w.heap.size (bc Z) _ rfl hb8 Tryd.underlying73 rfl hz.out) rfl ⟨rfl, h8.below hB9 (Nat.le_refl _)⟩
  · have HZ1 : Hid ((bc Y).take 0 ++ (K.data.toList.take K.size).map (fun c => Value.int .u8 c.toNat) ++ (bc Y).drop (0 + K.size) = bc Z) := by
      show _ = _
      rw [← hY, ← hZ, blkK, cutK, if_neg (by omega), hKs, ← lay_key _ (by omega)]
      simp [bc]
    have hk : min K.size 64 = K.size := by omega
    clear hZ hKs hY
    go_wp2_with (first
      | ((with_reducible refine at_allocD 2 73 ?_); refine L_alloc 73 _ HY0.out ?_; intro w1 h1 hb1)
      | ((with_reducible refine at_allocD 3 73 ?_); refine L_alloc 73 _ HY0.out ?_; intro w2 h2 hb2; have hsl := run_slice_all w2 w1.heap.size 0 64 73 5 Tryd.underlying73 Tryd.sizeOf5)
      | ((with_reducible refine at_copy ?_); refine L_copy _ _ 57 9 5 w1.heap.size 0 64 64 K.size K (bc Y) 73 rfl rfl Tryd.underlying57 Tryd.sizeOf5 hb2 (by rw [bc_length, HY.out]; exact Nat.le_refl _) hk ?_; intro w3 h3 hb3; rw [HZ1.out] at hb3)
      | ((with_reducible refine at_load 73 ?_); refine L_load_all 73 _ w1.heap.size _ 73 _ rfl hb3 Tryd.underlying73 rfl hz.out ?_)
      | ((with_reducible refine at_store 73 ?_); refine L_store_all 73 _ _ w.heap.size (bc Z) _ 73 rfl rfl (h3.blk (h2.blk hb1 (by have := hb1.lt; omega)) (by have := hb1.lt; omega)) hz.out HL.out (bc_one _) ?_; intro w8 h8 hb8))
    have hB3 : Below w.heap.size w w3 := h3.below (h2.below (h1.below (Below.refl _ _) (Nat.le_refl _)) h1.size) h1.size
    (try simp only [Exit.inBlock, Exit.then])
    exact bodyPost_ret (results_blk rfl w.heap.size (bc Z) _ rfl hb8 Tryd.underlying73 rfl hz.out) rfl ⟨rfl, h8.below hB3 (Nat.le_refl _)⟩
end Go.Proofs.YtdfpnicpcndkjaaDoor
