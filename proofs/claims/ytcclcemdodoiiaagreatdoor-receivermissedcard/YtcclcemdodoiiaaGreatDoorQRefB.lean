/- The reference's tags. -/
import Derived.Test.YtcclcemdodoiiaaGreatDoorQMacA
import Derived.Test.YtcclcemdodoiiaaGreatDoorQRef4
namespace Go.Proofs.YtcclcemdodoiiaaGreatDoor
set_option maxRecDepth 10000
open Go.RowKit
set_option linter.unusedVariables false

theorem info5 : (Tryz.prog.info? 5).map (fun i => (i.zero, i.size, i.bytes)) = some (some (.int .u8 0), 1, 1) := by kernel_rfl
/-- All blocks that were there, but block g, are as they were. -/
structure Grow (g : Nat) (w w' : World) : Prop where
  os : w'.os = w.os
  tape : w'.tape = w.tape
  output : w'.output = w.output
  size : w.heap.size ≤ w'.heap.size
  block : ∀ k, k < w.heap.size → k ≠ g → w'.heap[k]? = w.heap[k]?
theorem Grow.below {B g : Nat} {w0 w w' : World} (h : Grow g w w') (hb : Below B w0 w) (hg : B ≤ g) (hs : B ≤ w.heap.size) : Below B w0 w' :=
  hb.trans ⟨h.os, h.tape, h.output, h.size, fun k hk => h.block k (by omega) (by omega)⟩
theorem Grow.blk {g c : Nat} {w w' : World} {cs : List Value} {t : TypeId} (h : Grow g w w') (hc : Blk w c cs t) (hn : c ≠ g) : Blk w' c cs t := by
  have hl := hc.lt
  unfold Blk; rw [h.block c hl hn]; exact hc
theorem run_app8 {w : World} (ty : TypeId) (g cap n b c : Nat) (l : List UInt8) (sp : List Value) (z : UInt8) (hn : l.length = n) (hb : Blk w g (bc l ++ sp) 5) (hc : sp.length + n = cap) (hm : cap ≤ 9223372036854775807)
    (hz : w.cell? ⟨b, 0, none⟩ = some (.int .u8 (z.toNat : Int))) (hs : n ≤ 1000) :
    ∃ g' cap' sp' w', (Builtin.append_ #[60, 60] ty #[.slice (some ⟨g, 0, none⟩) n cap, .slice (some ⟨b, 0, none⟩) 1 c]).run Tryz.prog w = .ok (.slice (some ⟨g', 0, none⟩) (n + 1) cap') w' ∧ (g' = g ∨ g' = w.heap.size) ∧
      List.length sp' + (n + 1) = cap' ∧ cap' ≤ 9223372036854775807 ∧ Blk w' g' (bc (l ++ [z]) ++ sp') 5 ∧ Grow g w w' := by
  obtain ⟨i, hi, he⟩ : ∃ i, Tryz.prog.info? 5 = some i ∧ (i.zero, i.size, i.bytes) = (some (.int .u8 0), 1, 1) := by
    have h := info5
    cases hi : Tryz.prog.info? 5 with
    | none => rw [hi] at h; cases h
    | some i => rw [hi] at h; exact ⟨i, rfl, Option.some.inj h⟩
  have hz0 : i.zero = some (.int .u8 0) := congrArg (·.1) he
  have hz1 : i.size = 1 := congrArg (·.2.1) he
  have hz2 : i.bytes = 1 := congrArg (·.2.2) he
  have hlt := hb.lt
  have hown : w.ownsRow 0 5 1 (.slice (some ⟨g, 0, none⟩) n cap) n (bc l) := by
    refine ⟨by rw [bc_length, hn, Nat.mul_one], .inr ⟨g, cap, (bc l ++ sp).toArray, rfl, Nat.zero_le _, hb, by omega, hm, ?_, ?_⟩⟩
    · rw [List.size_toArray, List.length_append, bc_length]; omega
    · rw [Nat.mul_one, ← hn, List.take_left' (bc_length l)]
  have hnews : ∀ j u, (bc [z])[j]? = some u → w.cell? ((⟨b, 0, none⟩ : Addr).add j) = some u := fun j u hu => by
    rcases j with _ | j
    · rw [Addr.add_mid]; rw [show (bc [z])[0]? = some (.int .u8 (z.toNat : Int)) from rfl] at hu; rw [← hu]; exact hz
    · simp [bc] at hu
  obtain ⟨v', w', h1, h2, h3, -⟩ := run_append_own (P := Tryz.prog) w 0 60 ty 5 i (.int .u8 0) 1 1 Tryz.underlying60 hi hz0 hz1 hz2 rfl (by decide) _ n (bc l) hown
    ⟨b, 0, none⟩ 1 c (bc [z]) rfl hnews (bc_one _) (by show _ ≤ 9223372036854775807; omega) (by omega) (Nat.zero_le _)
  rcases h2.2 with ⟨_, hx⟩ | ⟨g', cap', cur, rfl, -, hg', hc1, hc2, hc3, hc4⟩
  · omega
  rw [Nat.mul_one] at hc3 hc4
  refine ⟨g', cap', cur.toList.drop (n + 1), w', h1, ?_, ?_, hc2, ?_, ⟨h3.os, h3.tape, h3.output, h3.size, fun k hk hne => h3.block k hk (fun e => hne (by simpa [Value.ownBlock] using e))⟩⟩
  · by_cases hroom : n + 1 ≤ cap
    · have hr := run_append_room (P := Tryz.prog) w 60 ty 5 i Tryz.underlying60 hi g n cap (bc l ++ sp).toArray hb ⟨b, 0, none⟩ 1 c (bc [z]) (by rw [hz1]; rfl) hnews (bc_one _) hroom
        (by rw [hz1, List.size_toArray, List.length_append, bc_length, bc_length]; simp; omega)
      rw [h1] at hr
      simp only [Result.ok.injEq, Value.slice.injEq, Option.some.injEq, Addr.mk.injEq] at hr
      exact .inl hr.1.1.1
    · have holds : ∀ j u, (bc l)[j]? = some u → w.cell? ((⟨g, 0, none⟩ : Addr).add j) = some u := fun j u hu => by
        rw [Addr.add_mid, Nat.zero_add]
        refine hb.cell j u ?_
        rw [List.getElem?_append_left (List.getElem?_eq_some_iff.1 hu).1]; exact hu
      have hr := run_append_grow (P := Tryz.prog) w 60 ty 5 i (.int .u8 0) Tryz.underlying60 hi hz0 ⟨g, 0, none⟩ n cap (bc l) (by rw [hz1, bc_length]; omega) holds ⟨b, 0, none⟩ 1 c (bc [z]) (by rw [hz1]; rfl) hnews (by omega) (by omega)
        (growslice_fits (by omega) (by rw [hz2]; omega))
      rw [h1] at hr
      simp only [Result.ok.injEq, Value.slice.injEq, Option.some.injEq, Addr.mk.injEq] at hr
      exact .inr hr.1.1.1
  · rw [List.length_drop, Array.length_toList]; omega
  · have e : bc l ++ bc [z] = bc (l ++ [z]) := by simp [bc]
    rw [e] at hc4
    show w'.heap[g']? = _
    rw [← hc4, List.take_append_drop]
    exact hg'
section
variable {ops : Array Oper} {Q : Exit → Act → World → Prop} {a : Act} {w : World} {rest : List Oper} {dst : Option Tmp} {ty : TypeId} {pos : String} {aft : Array Edge}
theorem L_app8 (x y : Operand) (g cap n b c : Nat) (l : List UInt8) (sp : List Value) (z : UInt8) (hx : a.eval x = .slice (some ⟨g, 0, none⟩) n cap) (hy : a.eval y = .slice (some ⟨b, 0, none⟩) 1 c) (hn : l.length = n) (hb : Blk w g (bc l ++ sp) 5) (hc : sp.length + n = cap) (hm : cap ≤ 9223372036854775807)
    (hz : w.cell? ⟨b, 0, none⟩ = some (.int .u8 (z.toNat : Int))) (hs : n ≤ 1000)
    (h : ∀ g' cap' sp' w', (g' = g ∨ g' = w.heap.size) → List.length sp' + (n + 1) = cap' → cap' ≤ 9223372036854775807 → Blk w' g' (bc (l ++ [z]) ++ sp') 5 → Grow g w w' → wpList Tryz.prog ops Q rest (a.put dst (.slice (some ⟨g', 0, none⟩) (n + 1) cap')) w') :
    wpList Tryz.prog ops Q (⟨dst, .call { callee := .builtin .append, args := #[x, y], argTypes := #[60, 60] }, ty, pos, aft, none⟩ :: rest) a w := by
  obtain ⟨g', cap', sp', w', hr, h1, h2, h3, h4, h5⟩ := run_app8 ty g cap n b c l sp z hn hb hc hm hz hs
  refine wpList_plain rfl fun K hK => ?_
  unfold Oper.wp execOp
  simp only [resolve, invoke, builtin, Sem.run_bind, Sem.run_pure, Result.andThen_ok, List.map_toArray, List.map_cons, List.map_nil, hx, hy, hr]
  exact hK _ _ (h g' cap' sp' w' h1 h2 h3 h4 h5)
theorem run_b1 (w : World) (x : Int) : (Instr.buildSlice 60 1 #[(0, .int .u8 x)]).run Tryz.prog w = .ok (.slice (some ⟨w.heap.size, 0, none⟩) 1 1) (w.alloc (.cells #[.int .u8 x] 5)) := by
  go_simp
theorem run_b0 (w : World) : (Instr.buildSlice 60 0 #[]).run Tryz.prog w = .ok (.slice (some ⟨w.heap.size, 0, none⟩) 0 0) (w.alloc (.cells #[] 5)) := by
  go_simp
theorem at_buildD {P : Program} {t : TypeId} {ps : Array (Nat × Operand)} (d : Tmp) (n : Nat) (h : wpList P ops Q (⟨some d, .buildSlice t n ps, ty, pos, aft, none⟩ :: rest) a w) : wpList P ops Q (⟨some d, .buildSlice t n ps, ty, pos, aft, none⟩ :: rest) a w := h
theorem L_b1 (y : Operand) (x : UInt8) (hy : a.eval y = .int .u8 (x.toNat : Int))
    (h : ∀ w', Turn w.heap.size w w' → Blk w' w.heap.size (bc [x]) 5 → wpList Tryz.prog ops Q rest (a.put dst (.slice (some ⟨w.heap.size, 0, none⟩) 1 1)) w') :
    wpList Tryz.prog ops Q (⟨dst, .buildSlice 60 1 #[(0, y)], ty, pos, aft, none⟩ :: rest) a w := by
  refine wpList_plain rfl fun K hK => ?_
  unfold Oper.wp execOp
  simp only [List.map_toArray, List.map_cons, List.map_nil, hy, Sem.run_bind, run_b1, Result.andThen_ok, Sem.run_pure]
  obtain ⟨h2, h3⟩ := turn_alloc w (bc [x]) 5
  exact hK _ _ (h _ h2 h3)
theorem L_b0 (h : ∀ w', Turn w.heap.size w w' → Blk w' w.heap.size (bc []) 5 → wpList Tryz.prog ops Q rest (a.put dst (.slice (some ⟨w.heap.size, 0, none⟩) 0 0)) w') :
    wpList Tryz.prog ops Q (⟨dst, .buildSlice 60 0 #[], ty, pos, aft, none⟩ :: rest) a w := by
  refine wpList_plain rfl fun K hK => ?_
  unfold Oper.wp execOp
  simp only [List.map_toArray, List.map_nil, Sem.run_bind, run_b0, Result.andThen_ok, Sem.run_pure]
  obtain ⟨h2, h3⟩ := turn_alloc w (bc []) 5
  exact hK _ _ (h _ h2 h3)
end
/-- One byte more of what is xored. -/
theorem xk_snoc (m : UInt8) (b : List UInt8) (j : Nat) (h : j < b.length) (x : UInt8) (hx : b.getD j 0 = x) : xk m (b.take (j + 1)) = xk m (b.take j) ++ [x ^^^ m] := by
  have hx2 : b[j] = x := by rw [← hx]; simp [h]
  rw [List.take_succ_eq_append_getElem h, hx2]
  simp [xk]
theorem xk_len (m : UInt8) (b : List UInt8) (j : Nat) (h : j ≤ b.length) : (xk m (b.take j)).length = j := by rw [xk_length, List.length_take]; omega
end Go.Proofs.YtcclcemdodoiiaaGreatDoor
namespace Go.Proofs.YtcclcemdodoiiaaGreatDoor
set_option maxRecDepth 10000
open Go.RowKit
set_option linter.unusedVariables false

theorem kf59 (vs : Array Value) (w : World) : (callFunc 59 vs).run Tryz.prog w = .ok (.enter 59 vs) w := by go_simp
theorem rsum_d (T : ByteArray) (hT : T.size ≤ 100000) (D : List UInt8) (hD : sum T.data.toList = D) (w : World) :
    Calls Tryz.prog 59 #[.string T] w fun e w' => e = .returned (.agg (bc D).toArray) ∧ Below w.heap.size w w' := by
  have h := rsum_any T hT w
  rw [← sum_dig, hD] at h
  exact h
theorem blkK_at (k : List UInt8) (C : ByteArray) (hC : C.data.toList = cutK k) (j : Nat) (h : j < C.size) : (blkK k).getD j 0 = C[j] := by
  have hs := Lib.size_eq C
  have e : (cutK k)[j]? = some C[j] := by
    rw [← hC]
    have : C[j] = C.data[j]'h := rfl
    rw [this]
    simp
  rw [blkK, List.getD_eq_getElem?_getD, List.getElem?_append_left (by rw [← hC]; omega), e]
  rfl
theorem blkK_zero (k : List UInt8) (C : ByteArray) (hC : C.data.toList = cutK k) (j : Nat) (h : ¬ j < C.size) : (blkK k).getD j 0 = 0 := by
  have hs := Lib.size_eq C
  rw [blkK, List.getD_eq_getElem?_getD, List.getElem?_append_right (by rw [← hC]; omega)]
  rw [List.getElem?_replicate]
  split <;> rfl
theorem bytes_append (a b : ByteArray) : (a ++ b).data.toList = a.data.toList ++ b.data.toList := by
  rw [ByteArray.data_append, Array.toList_append]
set_option maxRecDepth 100000 in
set_option maxHeartbeats 1600000 in
theorem rtag_any (K T : ByteArray) (hK : K.size ≤ 300) (hTs : T.size ≤ 3000) (w : World) :
    Calls Tryz.prog 82 #[.string K, .string T] w fun e w' => e = .returned (.agg (bc (tag K.data.toList T.data.toList)).toArray) ∧ Below w.heap.size w w' := by
  have hKz := Lib.size_eq K
  have hTz := Lib.size_eq T
  obtain ⟨B, hB⟩ : ∃ B, blkK K.data.toList = B := ⟨_, rfl⟩
  have HB : Shut (B.length = 64) := ⟨by rw [← hB]; exact blkK_length _⟩
  have HIL : Shut ((xk 54 B).length = 64) := ⟨by rw [xk_length]; exact HB.out⟩
  have HOL : Shut ((xk 92 B).length = 64) := ⟨by rw [xk_length]; exact HB.out⟩
  obtain ⟨I, hI⟩ : ∃ I : ByteArray, (⟨(xk 54 B).toArray⟩ : ByteArray) = I := ⟨_, rfl⟩
  obtain ⟨O, hO⟩ : ∃ O : ByteArray, (⟨(xk 92 B).toArray⟩ : ByteArray) = O := ⟨_, rfl⟩
  have HI : Shut ((⟨(xk 54 B).toArray⟩ : ByteArray) = I) := ⟨hI⟩
  have HO : Shut ((⟨(xk 92 B).toArray⟩ : ByteArray) = O) := ⟨hO⟩
  have HID : Shut (I.data.toList = xk 54 B) := ⟨by rw [← hI]⟩
  have HOD : Shut (O.data.toList = xk 92 B) := ⟨by rw [← hO]⟩
  have HIS : Shut (I.size = 64) := ⟨by rw [Lib.size_eq, HID.out]; exact HIL.out⟩
  have HOS : Shut (O.size = 64) := ⟨by rw [Lib.size_eq, HOD.out]; exact HOL.out⟩
  obtain ⟨J, hJ⟩ : ∃ J, I ++ T = J := ⟨_, rfl⟩
  have HIJ : Shut (I ++ T = J) := ⟨hJ⟩
  have HJS : Shut (J.size ≤ 100000) := ⟨by rw [← hJ, ByteArray.size_append, HIS.out]; omega⟩
  obtain ⟨D, hD⟩ : ∃ D, sum J.data.toList = D := ⟨_, rfl⟩
  have HJD : Shut (sum J.data.toList = D) := ⟨hD⟩
  have HDL : Shut (D.length = 32) := ⟨by rw [← hD]; exact sum_length _⟩
  have HDS : Shut ((⟨D.toArray⟩ : ByteArray).size = 32) := ⟨by show D.toArray.size = 32; rw [List.size_toArray]; exact HDL.out⟩
  obtain ⟨L, hL⟩ : ∃ L, O ++ (⟨D.toArray⟩ : ByteArray) = L := ⟨_, rfl⟩
  have HLO : Shut (O ++ (⟨D.toArray⟩ : ByteArray) = L) := ⟨hL⟩
  have HLS : Shut (L.size ≤ 100000) := ⟨by rw [← hL, ByteArray.size_append, HOS.out, HDS.out]; decide⟩
  obtain ⟨R, hR⟩ : ∃ R, tag K.data.toList T.data.toList = R := ⟨_, rfl⟩
  have HRL : Shut (R.length = 32) := ⟨by rw [← hR]; exact tag_length _ _⟩
  have HLR : Shut (sum L.data.toList = R) := ⟨by rw [← hL, bytes_append, HOD.out, show (⟨D.toArray⟩ : ByteArray).data.toList = D from rfl, ← hD, ← hJ, bytes_append, HID.out, ← hB, ← hR]; rfl⟩
  rw [hR]
  by_cases h64 : 64 < K.size
  · obtain ⟨E, hE⟩ : ∃ E, sum K.data.toList = E := ⟨_, rfl⟩
    have HE : Shut (sum K.data.toList = E) := ⟨hE⟩
    have HEL : Shut (E.length = 32) := ⟨by rw [← hE]; exact sum_length _⟩
    obtain ⟨C, hC⟩ : ∃ C : ByteArray, (⟨E.toArray⟩ : ByteArray) = C := ⟨_, rfl⟩
    have HCE : Shut ((⟨E.toArray⟩ : ByteArray) = C) := ⟨hC⟩
    have hCd : C.data.toList = cutK K.data.toList := by rw [← hC, cutK, if_pos (by omega), hE]
    have hCs : C.size ≤ 64 := by rw [Lib.size_eq, hCd]; exact cutK_length _
    have HBC : Shut (∀ j (h : j < C.size), B.getD j 0 = C[j]) := ⟨fun j h => by rw [← hB]; exact blkK_at _ C hCd j h⟩
    have HB0 : Shut (∀ j, ¬ j < C.size → B.getD j 0 = 0) := ⟨fun j h => by rw [← hB]; exact blkK_zero _ C hCd j h⟩
    clear hB hI hO hJ hD hL hR hE hC hCd hKz hTz
    go_enter Tryz.func82, Tryz.ntmps82
    go_wp2_with (first
      | ((with_reducible refine at_alloc 23 ?_); refine L_alloc 23 _ zero23 ?_; intro w1 h1 c0))
    have n1 : w.heap.size < w1.heap.size := c0.lt
    have hB1 : Below w.heap.size w w1 := h1.below (Below.refl _ _) (Nat.le_refl _)
    clear h1
    refine (rsum_d K (by omega) E HE.out w1).mono ?_; rintro e w2 ⟨rfl, hb2⟩
    have n2 := hb2.size
    have hB2 : Below w.heap.size w w2 := hB1.trans (hb2.mono (by omega))
    replace c0 := c0.below hb2 (by omega)
    clear hb2 hB1
    go_wp2_with (first
      | ((with_reducible refine at_alloc 23 ?_); refine L_alloc 23 _ zero23 ?_; intro w3 h3 b3)
      | ((with_reducible refine at_store 23 ?_); refine L_store_all 23 _ _ w2.heap.size (bc E) _ 23 rfl rfl b3 (zk23 E HEL.out) (by rw [bc_length, HEL.out]; rfl) (bc_one _) ?_; intro wk h4 b4; have hsl := run_slice_all wk w2.heap.size 0 32 23 5 Tryz.underlying23 Tryz.sizeOf5; have hcv := blk_all E HEL.out b4; rw [HCE.out] at hcv)
      | ((with_reducible refine stop_list 18 ?_); intro X hX))
    refine hX.out ?_
    clear hX X hsl hcv
    replace c0 := h4.blk (h3.blk c0 (by omega)) (by omega)
    have hBc : Below w.heap.size w wk := h4.below (h3.below hB2 (by omega)) (by omega)
    clear h3 h4 b3 b4 hB2
    have nc0 : w.heap.size < wk.heap.size := c0.lt
    go_wp2_with (first
      | ((with_reducible refine at_buildD 18 0 ?_); refine L_b0 ?_; intro wi hwi bi)
      | ((with_reducible refine at_buildD 19 0 ?_); refine L_b0 ?_; intro wo hwo bo))
    have ni := bi.lt
    have no := bo.lt
    replace bi := hwo.blk bi (by omega)
    replace c0 := hwo.blk (hwi.blk c0 (by omega)) (by omega)
    have hBo : Below w.heap.size w wo := hwo.below (hwi.below hBc (by omega)) (by omega)
    clear hwo hwi hBc
    go_loopw [6, 7, 8] (fun v6 v7 v8 wr => ∃ (j gi go ci co : Nat) (si so : List Value), j ≤ 64 ∧ v8 = .int .i64 j ∧ v6 = .slice (some ⟨gi, 0, none⟩) j ci ∧ v7 = .slice (some ⟨go, 0, none⟩) j co ∧ gi ≠ go ∧ w.heap.size < gi ∧ w.heap.size < go ∧
        si.length + j = ci ∧ so.length + j = co ∧ ci ≤ 9223372036854775807 ∧ co ≤ 9223372036854775807 ∧ Blk wr gi (bc (xk 54 (B.take j)) ++ si) 5 ∧ Blk wr go (bc (xk 92 (B.take j)) ++ so) 5 ∧ Blk wr w.heap.size (bc (List.replicate 32 0)) 23 ∧ Below w.heap.size w wr) (fun _ _ v8 _ => 64 - (intOf v8).toNat)
    case atStart => exact ⟨0, wk.heap.size, wi.heap.size, 0, 0, [], [], by omega, rfl, rfl, rfl, by omega, by omega, by omega, rfl, rfl, by omega, by omega, by simpa [xk, bc] using bi, by simpa [xk, bc] using bo, c0, hBo⟩
    case round =>
      clear bi bo c0 hBo
      obtain ⟨j, gi, go, ci, co, si, so, hj, rfl, rfl, rfl, hne, hgi, hgo, hsi, hso, hci, hco, bi, bo, c0, hbw⟩ := hrel
      have ngi := bi.lt
      have ngo := bo.lt
      by_cases hlt : j < 64
      · obtain ⟨x, hx⟩ : ∃ x, B.getD j 0 = x := ⟨_, rfl⟩
        have HS1 : Shut (xk 54 (B.take (j + 1)) = xk 54 (B.take j) ++ [x ^^^ 54]) := ⟨xk_snoc 54 B j (by have := HB.out; omega) x hx⟩
        have HS2 : Shut (xk 92 (B.take (j + 1)) = xk 92 (B.take j) ++ [x ^^^ 92]) := ⟨xk_snoc 92 B j (by have := HB.out; omega) x hx⟩
        have HJ1 : Shut ((xk 54 (B.take j)).length = j) := ⟨xk_len 54 B j (by have := HB.out; omega)⟩
        have HJ2 : Shut ((xk 92 (B.take j)).length = j) := ⟨xk_len 92 B j (by have := HB.out; omega)⟩
        have hx54 := xor8 x 54
        have hx92 := xor8 x 92
        rw [show ((54 : UInt8).toNat : Int) = 54 from rfl] at hx54
        rw [show ((92 : UInt8).toNat : Int) = 92 from rfl] at hx92
        by_cases hjc : j < C.size
        · have hcx : C[j] = x := by rw [← HBC.out j hjc, hx]
          rw [← hcx] at hx54 hx92
          have hxl := x.toNat_lt
          have hxl1 := (x ^^^ 54).toNat_lt
          have hxl2 := (x ^^^ 92).toNat_lt
          rw [hcx] at hx54 hx92
          have hcx2 : (C[j].toNat : Int) = (x.toNat : Int) := by rw [hcx]
          clear hx hcx
          go_wp2_with (first
            | ((with_reducible refine at_buildD 34 1 ?_); refine L_b1 _ (x ^^^ 54) rfl ?_; intro wa ha ba)
            | ((with_reducible refine stop_list 35 ?_); intro X hX))
          refine hX.out ?_
          clear hX X
          replace bi := ha.blk bi (by omega)
          replace bo := ha.blk bo (by omega)
          replace c0 := ha.blk c0 (by omega)
          have hBa : Below w.heap.size w wa := ha.below hbw (by omega)
          have na : wr.heap.size < wa.heap.size := ba.lt
          refine L_app8 _ _ gi ci j wr.heap.size 1 (xk 54 (B.take j)) si (x ^^^ 54) rfl rfl HJ1.out bi hsi hci (ba.cell 0 _ rfl) (by omega) ?_
          intro gi' ci' si' wb hgi' hsi' hci' bi' hgb
          replace bo := hgb.blk bo (by omega)
          replace c0 := hgb.blk c0 (by omega)
          have hBb : Below w.heap.size w wb := hgb.below hBa (by omega) (by omega)
          have nb := hgb.size
          have ngi := bi'.lt
          have ngo := bo.lt
          clear hgb ha ba hBa bi
          go_wp2_with (first
            | ((with_reducible refine at_buildD 39 1 ?_); refine L_b1 _ (x ^^^ 92) rfl ?_; intro wc hc' bc')
            | ((with_reducible refine stop_list 40 ?_); intro X hX))
          refine hX.out ?_
          clear hX X
          replace bi' := hc'.blk bi' (by omega)
          replace bo := hc'.blk bo (by omega)
          replace c0 := hc'.blk c0 (by omega)
          have hBc : Below w.heap.size w wc := hc'.below hBb (by omega)
          have nc : wb.heap.size < wc.heap.size := bc'.lt
          refine L_app8 _ _ go co j wb.heap.size 1 (xk 92 (B.take j)) so (x ^^^ 92) rfl rfl HJ2.out bo hso hco (bc'.cell 0 _ rfl) (by omega) ?_
          intro go' co' so' wd hgo' hso' hco' bo' hgd
          replace bi' := hgd.blk bi' (by omega)
          replace c0 := hgd.blk c0 (by omega)
          have hBd : Below w.heap.size w wd := hgd.below hBc (by omega) (by omega)
          rw [← HS1.out] at bi'
          rw [← HS2.out] at bo'
          go_wp2_with fail
          exact ⟨⟨j + 1, gi', go', ci', co', si', so', by omega, by go_num, rfl, rfl, by omega, by omega, by omega, hsi', hso', hci', hco', bi', bo', c0, hBd⟩, by simp [intOf]; omega⟩
        · have hx0 : x = 0 := by rw [← hx]; exact HB0.out j hjc
          subst hx0
          rw [show (((0 : UInt8).toNat : Nat) : Int) = 0 from rfl] at hx54 hx92
          have hxl1 := ((0 : UInt8) ^^^ 54).toNat_lt
          have hxl2 := ((0 : UInt8) ^^^ 92).toNat_lt
          clear hx
          go_wp2_with (first
            | ((with_reducible refine at_buildD 34 1 ?_); refine L_b1 _ ((0 : UInt8) ^^^ 54) rfl ?_; intro wa ha ba)
            | ((with_reducible refine stop_list 35 ?_); intro X hX))
          refine hX.out ?_
          clear hX X
          replace bi := ha.blk bi (by omega)
          replace bo := ha.blk bo (by omega)
          replace c0 := ha.blk c0 (by omega)
          have hBa : Below w.heap.size w wa := ha.below hbw (by omega)
          have na : wr.heap.size < wa.heap.size := ba.lt
          refine L_app8 _ _ gi ci j wr.heap.size 1 (xk 54 (B.take j)) si ((0 : UInt8) ^^^ 54) rfl rfl HJ1.out bi hsi hci (ba.cell 0 _ rfl) (by omega) ?_
          intro gi' ci' si' wb hgi' hsi' hci' bi' hgb
          replace bo := hgb.blk bo (by omega)
          replace c0 := hgb.blk c0 (by omega)
          have hBb : Below w.heap.size w wb := hgb.below hBa (by omega) (by omega)
          have nb := hgb.size
          have ngi := bi'.lt
          have ngo := bo.lt
          clear hgb ha ba hBa bi
          go_wp2_with (first
            | ((with_reducible refine at_buildD 39 1 ?_); refine L_b1 _ ((0 : UInt8) ^^^ 92) rfl ?_; intro wc hc' bc')
            | ((with_reducible refine stop_list 40 ?_); intro X hX))
          refine hX.out ?_
          clear hX X
          replace bi' := hc'.blk bi' (by omega)
          replace bo := hc'.blk bo (by omega)
          replace c0 := hc'.blk c0 (by omega)
          have hBc : Below w.heap.size w wc := hc'.below hBb (by omega)
          have nc : wb.heap.size < wc.heap.size := bc'.lt
          refine L_app8 _ _ go co j wb.heap.size 1 (xk 92 (B.take j)) so ((0 : UInt8) ^^^ 92) rfl rfl HJ2.out bo hso hco (bc'.cell 0 _ rfl) (by omega) ?_
          intro go' co' so' wd hgo' hso' hco' bo' hgd
          replace bi' := hgd.blk bi' (by omega)
          replace c0 := hgd.blk c0 (by omega)
          have hBd : Below w.heap.size w wd := hgd.below hBc (by omega) (by omega)
          rw [← HS1.out] at bi'
          rw [← HS2.out] at bo'
          go_wp2_with fail
          exact ⟨⟨j + 1, gi', go', ci', co', si', so', by omega, by go_num, rfl, rfl, by omega, by omega, by omega, hsi', hso', hci', hco', bi', bo', c0, hBd⟩, by simp [intOf]; omega⟩
      · obtain rfl : j = 64 := by omega
        rw [List.take_of_length_le (by rw [HB.out]; exact Nat.le_refl _)] at bi bo
        have hcv := blk_string (o := 0) (n := 64) (cap := ci) bi (xk 54 B) HIL.out (by rw [List.drop_zero, List.take_left' (by rw [bc_length]; exact HIL.out)])
        rw [HI.out] at hcv
        have hIs := HIS.out
        have hij := HIJ.out
        go_wp2_with fail
        refine (rsum_d J HJS.out D HJD.out wr).mono ?_; rintro e wd ⟨rfl, hbd⟩
        have hBd : Below w.heap.size w wd := hbw.trans (hbd.mono (by omega))
        have nd := hbd.size
        replace bo := bo.below hbd (by omega)
        replace c0 := c0.below hbd (by omega)
        clear hbd hcv bi hbw hij hIs
        go_wp2_with (first
          | ((with_reducible refine at_alloc 23 ?_); refine L_alloc 23 _ zero23 ?_; intro we he be)
          | ((with_reducible refine at_store 23 ?_); refine L_store_all 23 _ _ wd.heap.size (bc D) _ 23 rfl rfl be (zk23 D HDL.out) (by rw [bc_length, HDL.out]; rfl) (bc_one _) ?_; intro wf hf cf)
          | ((with_reducible refine stop_region 15 ?_); intro Z hZ))
        refine hZ.out ?_
        clear hZ
        have hBf : Below w.heap.size w wf := hf.below (he.below hBd (by omega)) (by omega)
        replace bo := hf.blk (he.blk bo (by omega)) (by omega)
        replace c0 := hf.blk (he.blk c0 (by omega)) (by omega)
        have nf := cf.lt
        clear he hf be hBd
        refine wp_region_inv (by kernel_rfl) (by kernel_rfl) (fun t v wx => Below (w.heap.size) wf wx ∧ wf.heap.size ≤ wx.heap.size ∧ Blk wx (go) (bc (xk 92 B) ++ so) 5 ∧ Blk wx (wd.heap.size) (bc D) 23 ∧ (t 0 = true → v 0 = .slice (some ⟨go, 0, none⟩) 64 co) ∧ (t 1 = true → v 1 = .string O) ∧ (t 2 = true → v 2 = .slice (some ⟨wd.heap.size, 0, none⟩) 32 32) ∧ (t 3 = true → v 3 = .string ⟨D.toArray⟩) ∧ (t 4 = true → v 4 = .string L) ∧ (t 5 = true → v 5 = .agg (bc R).toArray) ∧ ((t 6 = false → Blk wx (w.heap.size) (bc (List.replicate 32 0)) 23) ∧ (t 6 = true → Blk wx (w.heap.size) (bc R) 23) ∧ (t 6 = true → v 6 = undef))) ?_ ?_ ?_
        · exact ⟨(Below.refl _ _).drew, Nat.le_refl _, bo, cf, (fun h => by cases h), (fun h => by cases h), (fun h => by cases h), (fun h => by cases h), (fun h => by cases h), (fun h => by cases h), ⟨fun _ => c0, (fun h => by cases h), (fun h => by cases h)⟩⟩
        · simp only [full, Act.put, List.setIfInBounds_toArray, List.set_cons_succ, List.set_cons_zero, Nat.zero_add, Nat.reduceAdd]
          intro i o ho t v wx hS hti hall
          obtain ⟨hB, hsz, q0, q1, k0, k1, k2, k3, k4, k5, k6⟩ := hS
          have hnw : w.heap.size ≤ wx.heap.size := Nat.le_trans (by omega) hsz
          rcases i with _ | _ | _ | _ | _ | _ | _ | i
          · obtain rfl := Option.some.inj ho
            refine g_move _ _ rfl ?_
            exact ⟨hB, hsz, q0, q1, newE rfl, keepE (by decide) k1, keepE (by decide) k2, keepE (by decide) k3, keepE (by decide) k4, keepE (by decide) k5, k6⟩
          · obtain rfl := Option.some.inj ho
            have d0 := k0 (hall ⟨0, .data⟩ (by simp) rfl)
            have hcv := blk_string (o := 0) (n := 64) (cap := co) q0 (xk 92 B) HOL.out (by rw [List.drop_zero, List.take_left' (by rw [bc_length]; exact HOL.out)])
            rw [HO.out] at hcv
            refine g_val (.string O) wx (by rw [d0]; go_simp) ?_
            exact ⟨hB, hsz, q0, q1, keepE (by decide) k0, newE rfl, keepE (by decide) k2, keepE (by decide) k3, keepE (by decide) k4, keepE (by decide) k5, k6⟩
          · obtain rfl := Option.some.inj ho
            have hsl := run_slice_all wx wd.heap.size 0 32 23 5 Tryz.underlying23 Tryz.sizeOf5
            refine g_val (.slice (some ⟨wd.heap.size, 0, none⟩) 32 32) wx (by go_simp) ?_
            exact ⟨hB, hsz, q0, q1, keepE (by decide) k0, keepE (by decide) k1, newE rfl, keepE (by decide) k3, keepE (by decide) k4, keepE (by decide) k5, k6⟩
          · obtain rfl := Option.some.inj ho
            have d2 := k2 (hall ⟨2, .data⟩ (by simp) rfl)
            have hcv := blk_all D HDL.out q1
            refine g_val (.string ⟨D.toArray⟩) wx (by rw [d2]; go_simp) ?_
            exact ⟨hB, hsz, q0, q1, keepE (by decide) k0, keepE (by decide) k1, keepE (by decide) k2, newE rfl, keepE (by decide) k4, keepE (by decide) k5, k6⟩
          · obtain rfl := Option.some.inj ho
            have d1 := k1 (hall ⟨1, .data⟩ (by simp) rfl)
            have d3 := k3 (hall ⟨3, .data⟩ (by simp) rfl)
            refine g_sadd 9 _ _ O ⟨D.toArray⟩ L (show v 1 = _ from d1) (show v 3 = _ from d3) HLO.out (by have := HOS.out; have := HDS.out; omega) ?_
            exact ⟨hB, hsz, q0, q1, keepE (by decide) k0, keepE (by decide) k1, keepE (by decide) k2, keepE (by decide) k3, newE rfl, keepE (by decide) k5, k6⟩
          · obtain rfl := Option.some.inj ho
            have d4 := k4 (hall ⟨4, .data⟩ (by simp) rfl)
            refine g_call 59 _ _ [.string L] (kf59 _ _) (by show [v 4] = _; rw [d4]; (try rfl)) ((rsum_d L HLS.out R HLR.out wx).mono ?_)
            rintro e w' ⟨rfl, hb⟩
            exact ⟨_, rfl, hB.trans (hb.mono hnw), Nat.le_trans hsz hb.size, q0.below hb q0.lt, q1.below hb q1.lt, keepE (by decide) k0, keepE (by decide) k1, keepE (by decide) k2, keepE (by decide) k3, keepE (by decide) k4, newE rfl, ⟨fun h7 => (k6.1 h7).below hb (k6.1 h7).lt, fun h7 => (k6.2.1 h7).below hb (k6.2.1 h7).lt, k6.2.2⟩⟩
          · obtain rfl := Option.some.inj ho
            have d5 := k5 (hall ⟨5, .data⟩ (by simp) rfl)
            refine g_store_all 23 _ _ w.heap.size (bc R) _ 23 rfl (show v 5 = _ from d5) (k6.1 hti) (zk23 R HRL.out) (by rw [bc_length, HRL.out]; rfl) (bc_one _) (fun w' h1 h2 => ?_)
            exact ⟨h1.below hB (by omega), Nat.le_trans hsz h1.size, h1.blk q0 (by omega), h1.blk q1 (by omega), keepE (by decide) k0, keepE (by decide) k1, keepE (by decide) k2, keepE (by decide) k3, keepE (by decide) k4, keepE (by decide) k5, ⟨(fun h7 => by have h8 := setB_self t 6; rw [h7] at h8; cases h8), fun _ => h2, newE rfl⟩⟩
          · simp at ho
        · simp only [full, Act.put, List.setIfInBounds_toArray, List.set_cons_succ, List.set_cons_zero, Nat.zero_add, Nat.reduceAdd]
          intro t v wz hS ht
          obtain ⟨hB, hsz, q0, q1, k0, k1, k2, k3, k4, k5, k6⟩ := hS
          have f6 := k6.2.1 (ht 6 (by decide))
          clear ht k0 k1 k2 k3 k4 k5 k6  
          generalize v 0 = x0
          generalize v 1 = x1
          generalize v 2 = x2
          generalize v 3 = x3
          generalize v 4 = x4
          generalize v 5 = x5
          generalize v 6 = x6
          have hBz : Below w.heap.size w wz := hBf.trans (hB.mono (by omega))
          go_wp2_with fail
          (try simp only [Exit.inBlock, Exit.then])
          exact bodyPost_ret (results_blk rfl w.heap.size (bc R) _ rfl f6 Tryz.underlying23 rfl (zk23 R HRL.out)) rfl ⟨rfl, hBz⟩
  · have hCd : K.data.toList = cutK K.data.toList := by rw [cutK, if_neg (by omega)]
    have HBC : Shut (∀ j (h : j < K.size), B.getD j 0 = K[j]) := ⟨fun j h => by rw [← hB]; exact blkK_at _ K hCd j h⟩
    have HB0 : Shut (∀ j, ¬ j < K.size → B.getD j 0 = 0) := ⟨fun j h => by rw [← hB]; exact blkK_zero _ K hCd j h⟩
    clear hB hI hO hJ hD hL hR hCd hKz hTz
    go_enter Tryz.func82, Tryz.ntmps82
    go_wp2_with (first
      | ((with_reducible refine at_alloc 23 ?_); refine L_alloc 23 _ zero23 ?_; intro wk h1 c0)
      | ((with_reducible refine stop_list 18 ?_); intro X hX))
    refine hX.out ?_
    clear hX X
    have hBc : Below w.heap.size w wk := h1.below (Below.refl _ _) (Nat.le_refl _)
    clear h1
    have nc0 : w.heap.size < wk.heap.size := c0.lt
    go_wp2_with (first
      | ((with_reducible refine at_buildD 18 0 ?_); refine L_b0 ?_; intro wi hwi bi)
      | ((with_reducible refine at_buildD 19 0 ?_); refine L_b0 ?_; intro wo hwo bo))
    have ni := bi.lt
    have no := bo.lt
    replace bi := hwo.blk bi (by omega)
    replace c0 := hwo.blk (hwi.blk c0 (by omega)) (by omega)
    have hBo : Below w.heap.size w wo := hwo.below (hwi.below hBc (by omega)) (by omega)
    clear hwo hwi hBc
    go_loopw [6, 7, 8] (fun v6 v7 v8 wr => ∃ (j gi go ci co : Nat) (si so : List Value), j ≤ 64 ∧ v8 = .int .i64 j ∧ v6 = .slice (some ⟨gi, 0, none⟩) j ci ∧ v7 = .slice (some ⟨go, 0, none⟩) j co ∧ gi ≠ go ∧ w.heap.size < gi ∧ w.heap.size < go ∧
        si.length + j = ci ∧ so.length + j = co ∧ ci ≤ 9223372036854775807 ∧ co ≤ 9223372036854775807 ∧ Blk wr gi (bc (xk 54 (B.take j)) ++ si) 5 ∧ Blk wr go (bc (xk 92 (B.take j)) ++ so) 5 ∧ Blk wr w.heap.size (bc (List.replicate 32 0)) 23 ∧ Below w.heap.size w wr) (fun _ _ v8 _ => 64 - (intOf v8).toNat)
    case atStart => exact ⟨0, wk.heap.size, wi.heap.size, 0, 0, [], [], by omega, rfl, rfl, rfl, by omega, by omega, by omega, rfl, rfl, by omega, by omega, by simpa [xk, bc] using bi, by simpa [xk, bc] using bo, c0, hBo⟩
    case round =>
      clear bi bo c0 hBo
      obtain ⟨j, gi, go, ci, co, si, so, hj, rfl, rfl, rfl, hne, hgi, hgo, hsi, hso, hci, hco, bi, bo, c0, hbw⟩ := hrel
      have ngi := bi.lt
      have ngo := bo.lt
      by_cases hlt : j < 64
      · obtain ⟨x, hx⟩ : ∃ x, B.getD j 0 = x := ⟨_, rfl⟩
        have HS1 : Shut (xk 54 (B.take (j + 1)) = xk 54 (B.take j) ++ [x ^^^ 54]) := ⟨xk_snoc 54 B j (by have := HB.out; omega) x hx⟩
        have HS2 : Shut (xk 92 (B.take (j + 1)) = xk 92 (B.take j) ++ [x ^^^ 92]) := ⟨xk_snoc 92 B j (by have := HB.out; omega) x hx⟩
        have HJ1 : Shut ((xk 54 (B.take j)).length = j) := ⟨xk_len 54 B j (by have := HB.out; omega)⟩
        have HJ2 : Shut ((xk 92 (B.take j)).length = j) := ⟨xk_len 92 B j (by have := HB.out; omega)⟩
        have hx54 := xor8 x 54
        have hx92 := xor8 x 92
        rw [show ((54 : UInt8).toNat : Int) = 54 from rfl] at hx54
        rw [show ((92 : UInt8).toNat : Int) = 92 from rfl] at hx92
        by_cases hjc : j < K.size
        · have hcx : K[j] = x := by rw [← HBC.out j hjc, hx]
          rw [← hcx] at hx54 hx92
          have hxl := x.toNat_lt
          have hxl1 := (x ^^^ 54).toNat_lt
          have hxl2 := (x ^^^ 92).toNat_lt
          rw [hcx] at hx54 hx92
          have hcx2 : (K[j].toNat : Int) = (x.toNat : Int) := by rw [hcx]
          clear hx hcx
          go_wp2_with (first
            | ((with_reducible refine at_buildD 34 1 ?_); refine L_b1 _ (x ^^^ 54) rfl ?_; intro wa ha ba)
            | ((with_reducible refine stop_list 35 ?_); intro X hX))
          refine hX.out ?_
          clear hX X
          replace bi := ha.blk bi (by omega)
          replace bo := ha.blk bo (by omega)
          replace c0 := ha.blk c0 (by omega)
          have hBa : Below w.heap.size w wa := ha.below hbw (by omega)
          have na : wr.heap.size < wa.heap.size := ba.lt
          refine L_app8 _ _ gi ci j wr.heap.size 1 (xk 54 (B.take j)) si (x ^^^ 54) rfl rfl HJ1.out bi hsi hci (ba.cell 0 _ rfl) (by omega) ?_
          intro gi' ci' si' wb hgi' hsi' hci' bi' hgb
          replace bo := hgb.blk bo (by omega)
          replace c0 := hgb.blk c0 (by omega)
          have hBb : Below w.heap.size w wb := hgb.below hBa (by omega) (by omega)
          have nb := hgb.size
          have ngi := bi'.lt
          have ngo := bo.lt
          clear hgb ha ba hBa bi
          go_wp2_with (first
            | ((with_reducible refine at_buildD 39 1 ?_); refine L_b1 _ (x ^^^ 92) rfl ?_; intro wc hc' bc')
            | ((with_reducible refine stop_list 40 ?_); intro X hX))
          refine hX.out ?_
          clear hX X
          replace bi' := hc'.blk bi' (by omega)
          replace bo := hc'.blk bo (by omega)
          replace c0 := hc'.blk c0 (by omega)
          have hBc : Below w.heap.size w wc := hc'.below hBb (by omega)
          have nc : wb.heap.size < wc.heap.size := bc'.lt
          refine L_app8 _ _ go co j wb.heap.size 1 (xk 92 (B.take j)) so (x ^^^ 92) rfl rfl HJ2.out bo hso hco (bc'.cell 0 _ rfl) (by omega) ?_
          intro go' co' so' wd hgo' hso' hco' bo' hgd
          replace bi' := hgd.blk bi' (by omega)
          replace c0 := hgd.blk c0 (by omega)
          have hBd : Below w.heap.size w wd := hgd.below hBc (by omega) (by omega)
          rw [← HS1.out] at bi'
          rw [← HS2.out] at bo'
          go_wp2_with fail
          exact ⟨⟨j + 1, gi', go', ci', co', si', so', by omega, by go_num, rfl, rfl, by omega, by omega, by omega, hsi', hso', hci', hco', bi', bo', c0, hBd⟩, by simp [intOf]; omega⟩
        · have hx0 : x = 0 := by rw [← hx]; exact HB0.out j hjc
          subst hx0
          rw [show (((0 : UInt8).toNat : Nat) : Int) = 0 from rfl] at hx54 hx92
          have hxl1 := ((0 : UInt8) ^^^ 54).toNat_lt
          have hxl2 := ((0 : UInt8) ^^^ 92).toNat_lt
          clear hx
          go_wp2_with (first
            | ((with_reducible refine at_buildD 34 1 ?_); refine L_b1 _ ((0 : UInt8) ^^^ 54) rfl ?_; intro wa ha ba)
            | ((with_reducible refine stop_list 35 ?_); intro X hX))
          refine hX.out ?_
          clear hX X
          replace bi := ha.blk bi (by omega)
          replace bo := ha.blk bo (by omega)
          replace c0 := ha.blk c0 (by omega)
          have hBa : Below w.heap.size w wa := ha.below hbw (by omega)
          have na : wr.heap.size < wa.heap.size := ba.lt
          refine L_app8 _ _ gi ci j wr.heap.size 1 (xk 54 (B.take j)) si ((0 : UInt8) ^^^ 54) rfl rfl HJ1.out bi hsi hci (ba.cell 0 _ rfl) (by omega) ?_
          intro gi' ci' si' wb hgi' hsi' hci' bi' hgb
          replace bo := hgb.blk bo (by omega)
          replace c0 := hgb.blk c0 (by omega)
          have hBb : Below w.heap.size w wb := hgb.below hBa (by omega) (by omega)
          have nb := hgb.size
          have ngi := bi'.lt
          have ngo := bo.lt
          clear hgb ha ba hBa bi
          go_wp2_with (first
            | ((with_reducible refine at_buildD 39 1 ?_); refine L_b1 _ ((0 : UInt8) ^^^ 92) rfl ?_; intro wc hc' bc')
            | ((with_reducible refine stop_list 40 ?_); intro X hX))
          refine hX.out ?_
          clear hX X
          replace bi' := hc'.blk bi' (by omega)
          replace bo := hc'.blk bo (by omega)
          replace c0 := hc'.blk c0 (by omega)
          have hBc : Below w.heap.size w wc := hc'.below hBb (by omega)
          have nc : wb.heap.size < wc.heap.size := bc'.lt
          refine L_app8 _ _ go co j wb.heap.size 1 (xk 92 (B.take j)) so ((0 : UInt8) ^^^ 92) rfl rfl HJ2.out bo hso hco (bc'.cell 0 _ rfl) (by omega) ?_
          intro go' co' so' wd hgo' hso' hco' bo' hgd
          replace bi' := hgd.blk bi' (by omega)
          replace c0 := hgd.blk c0 (by omega)
          have hBd : Below w.heap.size w wd := hgd.below hBc (by omega) (by omega)
          rw [← HS1.out] at bi'
          rw [← HS2.out] at bo'
          go_wp2_with fail
          exact ⟨⟨j + 1, gi', go', ci', co', si', so', by omega, by go_num, rfl, rfl, by omega, by omega, by omega, hsi', hso', hci', hco', bi', bo', c0, hBd⟩, by simp [intOf]; omega⟩
      · obtain rfl : j = 64 := by omega
        rw [List.take_of_length_le (by rw [HB.out]; exact Nat.le_refl _)] at bi bo
        have hcv := blk_string (o := 0) (n := 64) (cap := ci) bi (xk 54 B) HIL.out (by rw [List.drop_zero, List.take_left' (by rw [bc_length]; exact HIL.out)])
        rw [HI.out] at hcv
        have hIs := HIS.out
        have hij := HIJ.out
        go_wp2_with fail
        refine (rsum_d J HJS.out D HJD.out wr).mono ?_; rintro e wd ⟨rfl, hbd⟩
        have hBd : Below w.heap.size w wd := hbw.trans (hbd.mono (by omega))
        have nd := hbd.size
        replace bo := bo.below hbd (by omega)
        replace c0 := c0.below hbd (by omega)
        clear hbd hcv bi hbw hij hIs
        go_wp2_with (first
          | ((with_reducible refine at_alloc 23 ?_); refine L_alloc 23 _ zero23 ?_; intro we he be)
          | ((with_reducible refine at_store 23 ?_); refine L_store_all 23 _ _ wd.heap.size (bc D) _ 23 rfl rfl be (zk23 D HDL.out) (by rw [bc_length, HDL.out]; rfl) (bc_one _) ?_; intro wf hf cf)
          | ((with_reducible refine stop_region 15 ?_); intro Z hZ))
        refine hZ.out ?_
        clear hZ
        have hBf : Below w.heap.size w wf := hf.below (he.below hBd (by omega)) (by omega)
        replace bo := hf.blk (he.blk bo (by omega)) (by omega)
        replace c0 := hf.blk (he.blk c0 (by omega)) (by omega)
        have nf := cf.lt
        clear he hf be hBd
        refine wp_region_inv (by kernel_rfl) (by kernel_rfl) (fun t v wx => Below (w.heap.size) wf wx ∧ wf.heap.size ≤ wx.heap.size ∧ Blk wx (go) (bc (xk 92 B) ++ so) 5 ∧ Blk wx (wd.heap.size) (bc D) 23 ∧ (t 0 = true → v 0 = .slice (some ⟨go, 0, none⟩) 64 co) ∧ (t 1 = true → v 1 = .string O) ∧ (t 2 = true → v 2 = .slice (some ⟨wd.heap.size, 0, none⟩) 32 32) ∧ (t 3 = true → v 3 = .string ⟨D.toArray⟩) ∧ (t 4 = true → v 4 = .string L) ∧ (t 5 = true → v 5 = .agg (bc R).toArray) ∧ ((t 6 = false → Blk wx (w.heap.size) (bc (List.replicate 32 0)) 23) ∧ (t 6 = true → Blk wx (w.heap.size) (bc R) 23) ∧ (t 6 = true → v 6 = undef))) ?_ ?_ ?_
        · exact ⟨(Below.refl _ _).drew, Nat.le_refl _, bo, cf, (fun h => by cases h), (fun h => by cases h), (fun h => by cases h), (fun h => by cases h), (fun h => by cases h), (fun h => by cases h), ⟨fun _ => c0, (fun h => by cases h), (fun h => by cases h)⟩⟩
        · simp only [full, Act.put, List.setIfInBounds_toArray, List.set_cons_succ, List.set_cons_zero, Nat.zero_add, Nat.reduceAdd]
          intro i o ho t v wx hS hti hall
          obtain ⟨hB, hsz, q0, q1, k0, k1, k2, k3, k4, k5, k6⟩ := hS
          have hnw : w.heap.size ≤ wx.heap.size := Nat.le_trans (by omega) hsz
          rcases i with _ | _ | _ | _ | _ | _ | _ | i
          · obtain rfl := Option.some.inj ho
            refine g_move _ _ rfl ?_
            exact ⟨hB, hsz, q0, q1, newE rfl, keepE (by decide) k1, keepE (by decide) k2, keepE (by decide) k3, keepE (by decide) k4, keepE (by decide) k5, k6⟩
          · obtain rfl := Option.some.inj ho
            have d0 := k0 (hall ⟨0, .data⟩ (by simp) rfl)
            have hcv := blk_string (o := 0) (n := 64) (cap := co) q0 (xk 92 B) HOL.out (by rw [List.drop_zero, List.take_left' (by rw [bc_length]; exact HOL.out)])
            rw [HO.out] at hcv
            refine g_val (.string O) wx (by rw [d0]; go_simp) ?_
            exact ⟨hB, hsz, q0, q1, keepE (by decide) k0, newE rfl, keepE (by decide) k2, keepE (by decide) k3, keepE (by decide) k4, keepE (by decide) k5, k6⟩
          · obtain rfl := Option.some.inj ho
            have hsl := run_slice_all wx wd.heap.size 0 32 23 5 Tryz.underlying23 Tryz.sizeOf5
            refine g_val (.slice (some ⟨wd.heap.size, 0, none⟩) 32 32) wx (by go_simp) ?_
            exact ⟨hB, hsz, q0, q1, keepE (by decide) k0, keepE (by decide) k1, newE rfl, keepE (by decide) k3, keepE (by decide) k4, keepE (by decide) k5, k6⟩
          · obtain rfl := Option.some.inj ho
            have d2 := k2 (hall ⟨2, .data⟩ (by simp) rfl)
            have hcv := blk_all D HDL.out q1
            refine g_val (.string ⟨D.toArray⟩) wx (by rw [d2]; go_simp) ?_
            exact ⟨hB, hsz, q0, q1, keepE (by decide) k0, keepE (by decide) k1, keepE (by decide) k2, newE rfl, keepE (by decide) k4, keepE (by decide) k5, k6⟩
          · obtain rfl := Option.some.inj ho
            have d1 := k1 (hall ⟨1, .data⟩ (by simp) rfl)
            have d3 := k3 (hall ⟨3, .data⟩ (by simp) rfl)
            refine g_sadd 9 _ _ O ⟨D.toArray⟩ L (show v 1 = _ from d1) (show v 3 = _ from d3) HLO.out (by have := HOS.out; have := HDS.out; omega) ?_
            exact ⟨hB, hsz, q0, q1, keepE (by decide) k0, keepE (by decide) k1, keepE (by decide) k2, keepE (by decide) k3, newE rfl, keepE (by decide) k5, k6⟩
          · obtain rfl := Option.some.inj ho
            have d4 := k4 (hall ⟨4, .data⟩ (by simp) rfl)
            refine g_call 59 _ _ [.string L] (kf59 _ _) (by show [v 4] = _; rw [d4]; (try rfl)) ((rsum_d L HLS.out R HLR.out wx).mono ?_)
            rintro e w' ⟨rfl, hb⟩
            exact ⟨_, rfl, hB.trans (hb.mono hnw), Nat.le_trans hsz hb.size, q0.below hb q0.lt, q1.below hb q1.lt, keepE (by decide) k0, keepE (by decide) k1, keepE (by decide) k2, keepE (by decide) k3, keepE (by decide) k4, newE rfl, ⟨fun h7 => (k6.1 h7).below hb (k6.1 h7).lt, fun h7 => (k6.2.1 h7).below hb (k6.2.1 h7).lt, k6.2.2⟩⟩
          · obtain rfl := Option.some.inj ho
            have d5 := k5 (hall ⟨5, .data⟩ (by simp) rfl)
            refine g_store_all 23 _ _ w.heap.size (bc R) _ 23 rfl (show v 5 = _ from d5) (k6.1 hti) (zk23 R HRL.out) (by rw [bc_length, HRL.out]; rfl) (bc_one _) (fun w' h1 h2 => ?_)
            exact ⟨h1.below hB (by omega), Nat.le_trans hsz h1.size, h1.blk q0 (by omega), h1.blk q1 (by omega), keepE (by decide) k0, keepE (by decide) k1, keepE (by decide) k2, keepE (by decide) k3, keepE (by decide) k4, keepE (by decide) k5, ⟨(fun h7 => by have h8 := setB_self t 6; rw [h7] at h8; cases h8), fun _ => h2, newE rfl⟩⟩
          · simp at ho
        · simp only [full, Act.put, List.setIfInBounds_toArray, List.set_cons_succ, List.set_cons_zero, Nat.zero_add, Nat.reduceAdd]
          intro t v wz hS ht
          obtain ⟨hB, hsz, q0, q1, k0, k1, k2, k3, k4, k5, k6⟩ := hS
          have f6 := k6.2.1 (ht 6 (by decide))
          clear ht k0 k1 k2 k3 k4 k5 k6  
          generalize v 0 = x0
          generalize v 1 = x1
          generalize v 2 = x2
          generalize v 3 = x3
          generalize v 4 = x4
          generalize v 5 = x5
          generalize v 6 = x6
          have hBz : Below w.heap.size w wz := hBf.trans (hB.mono (by omega))
          go_wp2_with fail
          (try simp only [Exit.inBlock, Exit.then])
          exact bodyPost_ret (results_blk rfl w.heap.size (bc R) _ rfl f6 Tryz.underlying23 rfl (zk23 R HRL.out)) rfl ⟨rfl, hBz⟩
end Go.Proofs.YtcclcemdodoiiaaGreatDoor
namespace Go.Proofs.YtcclcemdodoiiaaGreatDoor
set_option maxRecDepth 10000
open Go.RowKit
set_option linter.unusedVariables false

set_option maxRecDepth 100000 in
set_option maxHeartbeats 1000000 in
theorem rof_any (k : List UInt8) (hk : k.length = 32) (T : ByteArray) (hTs : T.size ≤ 3000) (w : World) :
    Calls Tryz.prog 58 #[.agg (bc k).toArray, .string T] w fun e w' => e = .returned (.agg (bc (tag k T.data.toList)).toArray) ∧ Below w.heap.size w w' := by
  obtain ⟨R, hR⟩ : ∃ R, tag k T.data.toList = R := ⟨_, rfl⟩
  rw [hR]
  have HRL : Shut (R.length = 32) := ⟨by rw [← hR]; exact tag_length _ _⟩
  have HR : Shut (tag (⟨k.toArray⟩ : ByteArray).data.toList T.data.toList = R) := ⟨hR⟩
  have HKS : Shut ((⟨k.toArray⟩ : ByteArray).size ≤ 300) := ⟨by show k.toArray.size ≤ _; simp [hk]⟩
  clear hR
  go_enter Tryz.func58, Tryz.ntmps58
  go_wp2_with (first
    | ((with_reducible refine at_box 23 ?_); refine L_box 23 _ (bc k) rfl ?_; intro w0 h0 hb0)
    | ((with_reducible refine at_alloc 23 ?_); refine L_alloc 23 _ zero23 ?_; intro w1 h1 hb1; have hsl := run_slice_all w1 w.heap.size 0 32 23 5 Tryz.underlying23 Tryz.sizeOf5; have hcv := blk_all k hk (h1.blk hb0 (by have := hb0.lt; omega))))
  have n0 : w.heap.size < w0.heap.size := hb0.lt
  have n1 : w0.heap.size < w1.heap.size := hb1.lt
  have hB1 : Below w.heap.size w w1 := h1.below (h0.below (Below.refl _ _) (Nat.le_refl _)) h0.size
  clear h0 h1 hb0 hsl hcv
  refine (rtag_any ⟨k.toArray⟩ T HKS.out hTs w1).mono ?_; rw [HR.out]; rintro e w3 ⟨rfl, hb3⟩
  have hB3 : Below w.heap.size w w3 := hB1.trans (hb3.mono (by omega))
  have c3 := hb1.below hb3 (by omega)
  go_wp2_with (first
    | ((with_reducible refine at_store 23 ?_); refine L_store_all 23 _ _ w0.heap.size (bc R) _ 23 rfl rfl c3 (zk23 R HRL.out) (by rw [bc_length, HRL.out]; rfl) (bc_one _) ?_; intro w8 h8 hb8))
  (try simp only [Exit.inBlock, Exit.then])
  exact bodyPost_ret (results_blk rfl w0.heap.size (bc R) _ rfl hb8 Tryz.underlying23 rfl (zk23 R HRL.out)) rfl ⟨rfl, h8.below hB3 (by omega)⟩
end Go.Proofs.YtcclcemdodoiiaaGreatDoor
namespace Go.Proofs.YtcclcemdodoiiaaGreatDoor
set_option maxRecDepth 10000
open Go Go.RowKit
set_option linter.unusedVariables false
theorem take_one (R : List UInt8) (j : Nat) (h : j < R.length) (x : UInt8) (hx : R.getD j 0 = x) : R.take (j + 1) = R.take j ++ [x] := by
  have hx2 : R[j] = x := by rw [← hx]; simp [h]
  rw [List.take_succ_eq_append_getElem h, hx2]
set_option maxRecDepth 100000 in
set_option maxHeartbeats 1000000 in
theorem rshort_any (K T : ByteArray) (n : Int) (hK : K.size ≤ 300) (hTs : T.size ≤ 3000) (w : World) :
    Calls Tryz.prog 60 #[.string K, .string T, .int .i64 n] w fun e w' => e = .returned (.string (fst K T n)) ∧ Below w.heap.size w w' := by
  obtain ⟨m, hm⟩ : ∃ m, cutN n = m := ⟨_, rfl⟩
  obtain ⟨R, hR⟩ : ∃ R, tag K.data.toList T.data.toList = R := ⟨_, rfl⟩
  have HRL : Shut (R.length = 32) := ⟨by rw [← hR]; exact tag_length _ _⟩
  have HR : Shut (tag K.data.toList T.data.toList = R) := ⟨hR⟩
  obtain ⟨F, hF⟩ : ∃ F, fst K T n = F := ⟨_, rfl⟩
  have HFD : Shut (F.data.toList = R.take m) := ⟨by rw [← hF, ← hR, ← hm]; rfl⟩
  rw [hF]
  have hm32 : m ≤ 32 := by rw [← hm]; exact cutN_le n
  have hlo : ∀ j : Nat, j < m → (j : Int) < n := fun j hj => by rw [← hm] at hj; unfold cutN at hj; omega
  have hhi : m < 32 → n ≤ m := fun h => by rw [← hm] at h ⊢; unfold cutN at h ⊢; omega
  have HLO : Shut (∀ j : Nat, j < m → (j : Int) < n) := ⟨hlo⟩
  have HHI : Shut (m < 32 → n ≤ m) := ⟨hhi⟩
  clear hR hm hF hlo hhi
  go_enter Tryz.func60, Tryz.ntmps60
  go_wp2_with fail
  refine (rtag_any K T hK hTs w).mono ?_; rw [HR.out]; rintro e w1 ⟨rfl, hb1⟩
  have n1 := hb1.size
  go_wp2_with (first
    | ((with_reducible refine at_alloc 23 ?_); refine L_alloc 23 _ zero23 ?_; intro w2 h2 hb2)
    | ((with_reducible refine at_store 23 ?_); refine L_store_all 23 _ _ w1.heap.size (bc R) _ 23 rfl rfl hb2 (zk23 R HRL.out) (by rw [bc_length, HRL.out]; rfl) (bc_one _) ?_; intro w3 h3 hb3))
  have hB3 : Below w.heap.size w w3 := h3.below (h2.below hb1 n1) n1
  clear h2 h3 hb1 hb2
  go_loopw [8, 9] (fun o i wr => ∃ (j : Nat) (S : ByteArray), j ≤ m ∧ i = .int .i64 j ∧ o = .string S ∧ S.size = j ∧ Shut (S.data.toList = R.take j) ∧ Blk wr w1.heap.size (bc R) 23 ∧ Below w.heap.size w wr) (fun _ i _ => 32 - (intOf i).toNat)
  case atStart => exact ⟨0, ⟨#[]⟩, by omega, rfl, rfl, rfl, ⟨rfl⟩, hb3, hB3⟩
  case round =>
    clear hb3 hB3
    obtain ⟨j, S, hj, rfl, rfl, hS, hSl, b1, hbw⟩ := hrel
    have nr := b1.lt
    by_cases hlt : j < m
    · have hjn := HLO.out j hlt
      have i9 : (j : Int) < 32 := by omega
      have r1 := b1.cell j _ (bc_at R j (by have := HRL.out; omega))
      obtain ⟨x, hx⟩ : ∃ x, R.getD j 0 = x := ⟨_, rfl⟩
      rw [hx] at r1
      have HSN : Shut (R.take (j + 1) = R.take j ++ [x]) := ⟨take_one R j (by have := HRL.out; omega) x hx⟩
      obtain ⟨Y, hY⟩ : ∃ Y : ByteArray, S ++ (⟨#[x]⟩ : ByteArray) = Y := ⟨_, rfl⟩
      have HYD : Shut (Y.data.toList = R.take (j + 1)) := ⟨by rw [← hY, bytes_append, hSl.out, HSN.out]⟩
      have hYs : Y.size = j + 1 := by rw [← hY, ByteArray.size_append, hS]; rfl
      have hxl := x.toNat_lt
      clear hx
      go_wp2_with (first
        | ((with_reducible refine at_buildD 26 1 ?_); refine L_b1 _ x rfl ?_; intro wa ha ba; have hcv := blk_string (o := 0) (n := 1) (cap := 1) ba [x] rfl rfl))
      refine ⟨⟨j + 1, Y, by omega, by go_num, rfl, hYs, HYD, ha.blk b1 (by omega), ha.below hbw hbw.size⟩, by simp [intOf]; omega⟩
    · obtain rfl : j = m := by omega
      have hend : Shut (S = F) := ⟨by apply ByteArray.ext; apply Array.toList_inj.1; rw [hSl.out, HFD.out]⟩
      by_cases h32 : j < 32
      · have hjn := HHI.out h32
        have i9 : (j : Int) < 32 := by omega
        go_wp2_with fail
        go_ret
        exact ⟨ret_string hend.out, hbw⟩
      · have i9 : ¬ (j : Int) < 32 := by omega
        go_wp2_with fail
        go_ret
        exact ⟨ret_string hend.out, hbw⟩
end Go.Proofs.YtcclcemdodoiiaaGreatDoor
