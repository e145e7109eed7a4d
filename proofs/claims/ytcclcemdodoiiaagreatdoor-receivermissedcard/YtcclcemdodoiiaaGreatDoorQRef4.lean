/- What the reference's Sum answers. -/
import Derived.Test.YtcclcemdodoiiaaGreatDoorQRef3
namespace Go.Proofs.YtcclcemdodoiiaaGreatDoor
set_option maxRecDepth 10000
open Go.RowKit
set_option linter.unusedVariables false
theorem right_at (N : BitVec 32) (i : Int) (h1 : 1 ≤ i) (h2 : i ≤ 31) (w : World) :
    Calls Tryz.prog 86 #[.int .u32 N.toNat, .int .i64 i] w fun e w' => e = .returned (.int .u32 (rl N (-i)).toNat) ∧ ∃ m, w' = w.drewN m := by
  have h := right_any N i.toNat (by omega) (by omega) w
  rw [Int.toNat_of_nonneg (by omega)] at h
  exact h
theorem zip3 : ∀ (g r s : List (BitVec 32)), List.zipWith ad (List.zipWith ad g r) s = List.zipWith ad (List.zipWith ad g s) r
  | [], _, _ => by simp
  | _ :: _, [], s => by cases s <;> simp
  | _ :: _, _ :: _, [] => by simp
  | a :: g, b :: r, c :: s => by
    simp only [List.zipWith_cons_cons, zip3 g r s]
    congr 1
    simp only [ad]
    rw [BitVec.add_assoc, BitVec.add_comm b c, BitVec.add_assoc]
theorem reach_thr (g : List (BitVec 32)) (b : List UInt8) : reach (thr g b) = List.zipWith ad (reach g) (rnd (spr b) (R8.of (reach g)) 64).list := by
  rw [thr, reach, zip3]; rfl
theorem reach_zero (T : List UInt8) : reach (gk T 0) = start0 := (by decide +kernel : reach (List.replicate 8 0) = start0)
theorem r8_list (l : List (BitVec 32)) (hl : l.length = 8) : (R8.of l).list = l := by
  match l, hl with
  | [a, b, c, d, e, f, g, h], _ => rfl
theorem gk_length (T : List UInt8) (k : Nat) : (gk T k).length = 8 := by
  induction k with
  | zero => rfl
  | succ k ih => rw [gk, thr_length _ _ ih]
theorem putL4 (x : Nat) : putL x 4 = [UInt8.ofNat (x / 16777216 % 256), UInt8.ofNat (x / 65536 % 256), UInt8.ofNat (x / 256 % 256), UInt8.ofNat (x % 256)] := by
  simp only [putL, List.nil_append, List.cons_append, Nat.div_div_eq_div_mul]
theorem bytesW_at : ∀ (l : List (BitVec 32)) (j : Nat), j < 4 * l.length → (bytesW l)[j]? = some (UInt8.ofNat ((l.getD (j / 4) 0).toNat / 256 ^ (3 - j % 4) % 256))
  | [], j, h => by simp at h
  | x :: l, j, h => by
    have e : bytesW (x :: l) = putL x.toNat 4 ++ bytesW l := by simp [bytesW]
    rw [e]
    by_cases hj : j < 4
    · rw [List.getElem?_append_left (by rw [putL_length]; exact hj), putL4]
      rcases j with _ | _ | _ | _ | j
      · rfl
      · rfl
      · rfl
      · simp
      · omega
    · rw [List.getElem?_append_right (by rw [putL_length]; omega), putL_length, bytesW_at l (j - 4) (by simp at h; omega), show (j - 4) % 4 = j % 4 by omega, show j / 4 = (j - 4) / 4 + 1 by omega]
      rfl
/-- What Sum has laid after j rounds of its last loop. -/
def opl (B : List UInt8) (j : Nat) : List UInt8 := B.take j ++ List.replicate (32 - j) 0
theorem opl_length (B : List UInt8) (j : Nat) (hB : B.length = 32) (hj : j ≤ 32) : (opl B j).length = 32 := by
  rw [opl, List.length_append, List.length_take, List.length_replicate]; omega
theorem opl_end (B : List UInt8) (hB : B.length = 32) : opl B 32 = B := by rw [opl, List.take_of_length_le (by omega)]; simp
theorem opl_step (B : List UInt8) (j : Nat) (hB : B.length = 32) (hj : j < 32) (y : UInt8) (hy : B[j]? = some y) : (opl B j).set j y = opl B (j + 1) := by
  have hb : B[j]'(by omega) = y := (List.getElem?_eq_some_iff.1 hy).2
  rw [opl, opl, List.set_append_right _ _ (by rw [List.length_take]; omega), List.length_take, show j - min j B.length = 0 by omega, show 32 - j = (32 - (j + 1)) + 1 by omega, List.replicate_succ, List.set_cons_zero, List.take_succ_eq_append_getElem (by omega), hb]
  simp
theorem byte_is (x : BitVec 32) (d : Nat) : ((x.toNat : Int) / (d : Int) % 256) = ((UInt8.ofNat (x.toNat / d % 256)).toNat : Int) := by
  rw [UInt8.toNat_ofNat', Nat.mod_eq_of_lt (Nat.mod_lt _ (by decide))]; omega
set_option maxRecDepth 100000 in
set_option maxHeartbeats 4000000 in
theorem rsum_any (T : ByteArray) (hT : T.size ≤ 100000) (w : World) :
    Calls Tryz.prog 59 #[.string T] w fun e w' => e = .returned (.agg (bc (dig T.data.toList)).toArray) ∧ Below w.heap.size w w' := by
  go_enter Tryz.func59, Tryz.ntmps59
  go_wp2_with (first
    | ((with_reducible refine at_alloc 23 ?_); refine L_alloc 23 _ zero23 ?_; intro w1 h1 hb1)
    | ((with_reducible refine at_build 8 ?_); refine L_flat 8 _ start0 rfl (by decide) (by decide) (by kernel_rfl) ?_; intro w2 h2 hb2))
  have n1 : w.heap.size < w1.heap.size := hb1.lt
  have n2 : w1.heap.size < w2.heap.size := hb2.lt
  have hB2 : Below w.heap.size w w2 := h2.below (h1.below (Below.refl _ _) (Nat.le_refl _)) h1.size
  have b1 := h2.blk hb1 (by omega)
  clear h1 h2 hb1
  refine (constants_any w2).mono ?_; rintro e w3 ⟨rfl, h3, hb3⟩
  have n3 : w2.heap.size < w3.heap.size := hb3.lt
  have hB3 : Below w.heap.size w w3 := h3.below hB2 (by omega)
  have c1 := h3.blk b1 (by omega)
  have c2 := h3.blk hb2 (by omega)
  clear h3 b1 hb2 hB2
  go_wp2_with fail
  refine (filled_any T w3 (by omega)).mono ?_; rintro e w4 ⟨rfl, hb4⟩
  have n4 : w3.heap.size ≤ w4.heap.size := hb4.size
  have hB4 : Below w.heap.size w w4 := hB3.trans (hb4.mono (by omega))
  have d1 := c1.below hb4 (by omega)
  have d2 := c2.below hb4 (by omega)
  have d3 := hb3.below hb4 (by omega)
  clear c1 c2 hb3 hb4 hB3
  obtain ⟨F, hF⟩ : ∃ F : ByteArray, (⟨(filled T.data.toList).toArray⟩ : ByteArray) = F := ⟨_, rfl⟩
  have HF : Hid (F.data.toList = filled T.data.toList) := by show _ = _; rw [← hF]
  obtain ⟨n, hn⟩ : ∃ n, (filled T.data.toList).length = 64 * n := ⟨(filled T.data.toList).length / 64, by have := filled_length T.data.toList; omega⟩
  have hFs : F.size = 64 * n := by rw [Lib.size_eq, HF.out, hn]
  have hnb : 64 * n ≤ 200000 := by
    have hTl := Lib.size_eq T
    have hfl : (filled T.data.toList).length ≤ T.data.toList.length + 72 := by
      rw [filled, List.length_append, List.length_append, putL_length, fillB, List.length_cons, List.length_replicate]; omega
    omega
  have HD : Hid (dig T.data.toList = bytesW (reach (gk F.data.toList n))) := by
    show _ = _; rw [dig, ← HF.out, ← Lib.size_eq, hFs]; congr 3; omega
  rw [hF]
  clear hF hn
  rw [← reach_zero F.data.toList] at d2
  go_wp2_with fail
  go_loopw [6] (fun i wr => ∃ k : Nat, k ≤ n ∧ i = .int .i64 (64 * k : Nat) ∧ Blk wr w.heap.size (bc (List.replicate 32 0)) 23 ∧ Blk wr w1.heap.size (c32 (reach (gk F.data.toList k))) 157 ∧ Blk wr w2.heap.size (c32 kon) 157 ∧ Below w.heap.size w wr) (fun i _ => 64 * n - (intOf i).toNat)
  case atStart => exact ⟨0, by omega, rfl, d1, d2, d3, hB4⟩
  case round =>
    clear d1 d2 d3 hB4
    obtain ⟨k, hk, rfl, d1, d2, d3, hbw⟩ := hrel
    have m1 := d1.lt
    have m2 := d2.lt
    have m3 := d3.lt
    obtain ⟨H, hH⟩ : ∃ H, reach (gk F.data.toList k) = H := ⟨_, rfl⟩
    have hHl : H.length = 8 := by rw [← hH]; exact reach_length _ (gk_length _ _)
    rw [hH] at d2
    by_cases hlt : k < n
    · obtain ⟨E, hE⟩ : ∃ E, F.extract (64 * k) (64 * k + 64) = E := ⟨_, rfl⟩
      have hEs : E.size = 64 := by rw [← hE, ByteArray.size_extract]; omega
      have HE : Hid (F.extract (64 * k) (64 * k + 64) = E) := hE
      obtain ⟨s0, hs0⟩ : ∃ s0, R8.of H = s0 := ⟨_, rfl⟩
      have HS0 : Hid (s0.list = H) := by show _ = _; rw [← hs0, r8_list H hHl]
      obtain ⟨W, hW⟩ : ∃ W, spr E.data.toList = W := ⟨_, rfl⟩
      have HN : Hid (reach (gk F.data.toList (k + 1)) = List.zipWith ad H (rnd W s0 64).list) := by
        show _ = _
        rw [gk, reach_thr, hH, hs0, ← hW, ← hE, Lib.extract_data, show 64 * k + 64 - 64 * k = 64 by omega]
      have hWl : W.length = 64 := by rw [← hW, spr_length]
      have hH8 : Hid (H.length = 8) := hHl
      clear hE hs0 hH hHl
      go_wp2_with fail
      rw [HE.out]
      refine (numbers_any E hEs wr).mono ?_; rw [hW]; rintro e w5 ⟨v7, rfl, ho7, hb5⟩
      obtain ⟨g7, cap7, sp7, rfl, hg7, hc7, hc7b, hsp7, k7⟩ := ho7.blk (by intro e; rw [e] at hWl; cases hWl)
      clear ho7
      rw [hWl] at hc7 ⊢
      have m5 : wr.heap.size ≤ w5.heap.size := hb5.size
      have m7 := k7.lt
      have e1 := d1.below hb5 m1
      have e2 := d2.below hb5 m2
      have e3 := d3.below hb5 m3
      have hB5 : Below w.heap.size w w5 := hbw.trans (hb5.mono (by omega))
      have HW : Hid (W.length = 64) := hWl
      clear d1 d2 d3 hb5 hbw hW hsp7 hWl
      go_wp2_with (first
        | ((with_reducible refine at_build 0 ?_); refine L_build0 ?_; intro w6 h6 hb6)
        | ((with_reducible refine stop_list 35 ?_); intro X hX))
      refine hX.out ?_
      clear hX X
      have o6 : Own w6 w5.heap.size (.slice (some ⟨w5.heap.size, 0, none⟩) 0 0) [] := Own.of (sp := []) (Nat.le_refl _) rfl (by omega) (by simpa using hb6)
      have m6 : w5.heap.size ≤ w6.heap.size := h6.size
      have e2b := h6.blk e2 (by omega)
      refine L_app _ _ w5.heap.size _ [] H rfl o6 w1.heap.size 0 8 8 rfl hH8.out ?_ (by simp) (by omega) ?_
      · intro j hj
        rw [Nat.zero_add]
        exact e2b.cell j _ (c32_at H j (by rw [hH8.out]; exact hj))
      intro v8 w7 o8 hb7
      have hB7 : Below w5.heap.size w5 w7 := (h6.below (Below.refl _ _) (Nat.le_refl _)).trans hb7
      clear o6 m6 e2b h6 hb6 hb7
      rw [List.nil_append, ← HS0.out] at o8
      go_wp2_with fail
      go_loopw [8, 9] (fun v i wq => ∃ (j : Nat) (s : R8), j ≤ 64 ∧ i = .int .i64 j ∧ Own wq w5.heap.size v s.list ∧ Hid (s = rnd W s0 j) ∧ Below w5.heap.size w5 wq) (fun _ i _ => 64 - (intOf i).toNat)
      case atStart => exact ⟨0, s0, by omega, rfl, o8, rfl, hB7⟩
      case round =>
        clear o8 hB7
        obtain ⟨j, s, hj, rfl, ho, hs, hbq⟩ := hrel
        by_cases hlt2 : j < 64
        · obtain ⟨g, cap, sp, rfl, hg, hcap, hcap2, hsp, hblk⟩ := ho.blk (by intro e; cases e)
          rw [show s.list.length = 8 from rfl] at hcap ⊢
          have r0 : wr.cell? ⟨g, 0, none⟩ = some (.int .u32 (s.a.toNat : Int)) := row_cell hblk 0 (show 0 < 8 by decide)
          have r1 : wr.cell? ⟨g, 1, none⟩ = some (.int .u32 (s.b.toNat : Int)) := row_cell hblk 1 (show 1 < 8 by decide)
          have r2 : wr.cell? ⟨g, 2, none⟩ = some (.int .u32 (s.c.toNat : Int)) := row_cell hblk 2 (show 2 < 8 by decide)
          have r4 : wr.cell? ⟨g, 4, none⟩ = some (.int .u32 (s.e.toNat : Int)) := row_cell hblk 4 (show 4 < 8 by decide)
          have r5 : wr.cell? ⟨g, 5, none⟩ = some (.int .u32 (s.f.toNat : Int)) := row_cell hblk 5 (show 5 < 8 by decide)
          have r6 : wr.cell? ⟨g, 6, none⟩ = some (.int .u32 (s.g.toNat : Int)) := row_cell hblk 6 (show 6 < 8 by decide)
          have r7 : wr.cell? ⟨g, 7, none⟩ = some (.int .u32 (s.h.toNat : Int)) := row_cell hblk 7 (show 7 < 8 by decide)
          have hkk := (e3.below hbq (by omega)).cell j _ (c32_at kon j (by rw [kon_length]; exact hlt2))
          have hww := row_cell (k7.below hbq (by omega)) j (by rw [HW.out]; exact hlt2)
          have hs' : Hid (stp s (kon.getD j 0) (W.getD j 0) = rnd W s0 (j + 1)) := by show _ = _; rw [rnd, ← hs.out]
          generalize kon.getD j 0 = kk at *
          generalize W.getD j 0 = ww at *
          have i9 : (j : Int) < 64 := by omega
          go_wp2_with fail
          have hxor := xor32
          have hadd := add32
          have hand := and32
          have hnot := not32
          go_quiet ((go_at_call 86; exact Calls.quiet_of (right_at _ _ (by decide) (by decide) _)))
          go_wp2_with fail
          rw [show (((ad (ad (ad s.h (xr (xr (rl s.e (-6)) (rl s.e (-11))) (rl s.e (-25)))) (xr (an s.e s.f) (an (nt s.e) s.g))) kk).toNat : Int) + (ww.toNat : Int)) % 4294967296 = ((tt s kk ww).toNat : Int) from add32 _ _]
          obtain ⟨t, ht⟩ : ∃ t, tt s kk ww = t := ⟨_, rfl⟩
          rw [ht]
          obtain ⟨w8, hw8⟩ : ∃ w8, wr.drewN nq = w8 := ⟨_, rfl⟩
          have hblk8 : Blk w8 g (c32 s.list ++ sp) 157 := by rw [← hw8]; exact hblk
          have hbq8 : Below w5.heap.size w5 w8 := by rw [← hw8]; exact ⟨hbq.os, hbq.tape, hbq.output, hbq.size, hbq.block⟩
          rw [hw8]
          clear hw8 r0 r1 r2 r4 r5 r6 r7 hkk hww hblk hbq ho
          have r1 : w8.cell? ⟨g, 1, none⟩ = some (.int .u32 (s.b.toNat : Int)) := row_cell hblk8 1 (show 1 < 8 by decide)
          have r2 : w8.cell? ⟨g, 2, none⟩ = some (.int .u32 (s.c.toNat : Int)) := row_cell hblk8 2 (show 2 < 8 by decide)
          go_quiet ((go_at_call 86; exact Calls.quiet_of (right_at _ _ (by decide) (by decide) _)))
          obtain ⟨w9, hw9⟩ : ∃ w9, w8.drewN nq = w9 := ⟨_, rfl⟩
          have hblk9 : Blk w9 g (c32 s.list ++ sp) 157 := by rw [← hw9]; exact hblk8
          have hbq9 : Below w5.heap.size w5 w9 := by rw [← hw9]; exact ⟨hbq8.os, hbq8.tape, hbq8.output, hbq8.size, hbq8.block⟩
          rw [hw9]
          clear hw9 r1 r2 hblk8 hbq8 hxor hadd hand hnot
          rw [show (((xr (xr (rl s.a (-2)) (rl s.a (-13))) (rl s.a (-22))).toNat : Int) + ((xr (xr (an s.a s.b) (an s.a s.c)) (an s.b s.c)).toNat : Int)) % 4294967296 = ((uu s).toNat : Int) from add32 _ _]
          obtain ⟨u, hu⟩ : ∃ u, uu s = u := ⟨_, rfl⟩
          rw [hu]
          have hst : Hid (([ad t u] ++ [s.a, s.b, s.c, s.d, s.e, s.f, s.g]).set 4 (ad s.d t) = (stp s kk ww).list) := by
            show _ = _; rw [← ht, ← hu]; rfl
          have m9 : w5.heap.size ≤ w9.heap.size := hbq9.size
          have hadd1 := add32 t u
          clear ht hu
          go_wp2_with (first
            | ((with_reducible refine at_build 1 ?_); refine L_build1 _ (ad t u) rfl ?_; intro w10 h10 hb10)
            | ((with_reducible refine stop_list 115 ?_); intro X hX))
          refine hX.out ?_
          clear hX X hadd1
          have o10 : Own w10 w5.heap.size (.slice (some ⟨w9.heap.size, 0, none⟩) 1 1) [ad t u] := Own.of (sp := []) m9 rfl (by omega) (by simpa using hb10)
          have m10 : w9.heap.size ≤ w10.heap.size := h10.size
          have hblk10 := h10.blk hblk9 (by have := hblk9.lt; omega)
          refine L_app _ _ w5.heap.size _ [ad t u] [s.a, s.b, s.c, s.d, s.e, s.f, s.g] rfl o10 g 0 7 cap rfl rfl ?_ (by simp) (by omega) ?_
          · intro i hi
            rw [Nat.zero_add]
            have hc := row_cell hblk10 i (show i < 8 by omega)
            rw [hc]
            congr 3
            rcases i with _ | _ | _ | _ | _ | _ | _ | i
            · rfl
            · rfl
            · rfl
            · rfl
            · rfl
            · rfl
            · rfl
            · omega
          intro v11 w11 o11 hb11
          have hB11 : Below w5.heap.size w5 w11 := (h10.below hbq9 (by omega)).trans hb11
          obtain ⟨g11, cap11, sp11, rfl, hg11, hcap11, hcap11b, hsp11, hblk11⟩ := o11.blk (by intro e; cases e)
          clear o11 o10 hb10 h10 hblk10 hblk9 hbq9 hb11
          rw [show ([ad t u] ++ [s.a, s.b, s.c, s.d, s.e, s.f, s.g]).length = 8 from rfl] at hcap11 hsp11 ⊢
          have r4 : w11.cell? ⟨g11, 4, none⟩ = some (.int .u32 (s.d.toNat : Int)) := row_cell hblk11 4 (show 4 < 8 by decide)
          have hf4 := hblk11.frozen 4
          have hadd2 := add32 s.d t
          go_wp2_with fail
          obtain ⟨t1, t2⟩ := row_set hblk11 4 (ad s.d t) (show 4 < 8 by decide)
          rw [hst.out] at t2
          have o12 : Own _ w5.heap.size (.slice (some ⟨g11, 0, none⟩) (stp s kk ww).list.length cap11) (stp s kk ww).list := Own.of hg11 hsp11 hcap11b t2
          exact ⟨⟨j + 1, stp s kk ww, by omega, by go_num, o12, hs', t1.below hB11 hg11⟩, by simp [intOf]; omega⟩
        · obtain rfl : j = 64 := by omega
          obtain ⟨g, cap, sp, rfl, hg, hcap, hcap2, hsp, hblk⟩ := ho.blk (by intro e; cases e)
          rw [show s.list.length = 8 from rfl] at hcap ⊢
          rw [← hs.out] at HN
          clear hs ho
          have f1 := e1.below hbq (by omega)
          have f2 : Blk wr w1.heap.size (c32 (prw H s.list 0)) 157 := by have := e2.below hbq (by omega); simpa [prw] using this
          have f3 := e3.below hbq (by omega)
          have hBr : Below w.heap.size w wr := hB5.trans (hbq.mono (by omega))
          have hll : Hid (s.list.length = 8) := rfl
          clear e1 e2 e3 hbq hB5 k7
          go_wp2_with fail
          go_loopw [14] (fun i wq => ∃ q : Nat, q ≤ 8 ∧ i = .int .i64 q ∧ Blk wq w.heap.size (bc (List.replicate 32 0)) 23 ∧ Blk wq w1.heap.size (c32 (prw H s.list q)) 157 ∧ Blk wq w2.heap.size (c32 kon) 157 ∧ Blk wq g (c32 s.list ++ sp) 157 ∧ Below w.heap.size w wq) (fun i _ => 8 - (intOf i).toNat)
          case atStart => exact ⟨0, by omega, rfl, f1, f2, f3, hblk, hBr⟩
          case round =>
            clear f1 f2 f3 hblk hBr
            obtain ⟨q, hq, rfl, f1, f2, f3, hblk, hBr⟩ := hrel
            by_cases hlt3 : q < 8
            · have r1 := f2.cell q _ (c32_at _ q (by rw [prw_length H _ q hH8.out hll.out hq]; exact hlt3))
              rw [prw_at H _ q hH8.out hll.out hlt3] at r1
              have r2 := row_cell hblk q (by rw [hll.out]; exact hlt3)
              have hf := f2.frozen q
              have hst : Hid ((prw H s.list q).set q (ad (H.getD q 0) (s.list.getD q 0)) = prw H s.list (q + 1)) := prw_step H _ q hH8.out hll.out hlt3
              generalize s.list.getD q 0 = y at *
              generalize H.getD q 0 = x at *
              have i9 : (q : Int) < 8 := by omega
              have hadd := add32 x y
              go_wp2_with fail
              go_region
              go_wp2_with fail
              obtain ⟨t1, t2⟩ := turn_setCell wr.drew w1.heap.size q (.int .u32 ((ad x y).toNat : Int)) _ 157 f2.drew
              rw [c32_set, hst.out] at t2
              exact ⟨⟨q + 1, by omega, by go_num, t1.blk f1.drew (by omega), t2, t1.blk f3.drew (by omega), t1.blk hblk.drew (by omega), t1.below hBr.drew (by omega)⟩, by simp [intOf]; omega⟩
            · obtain rfl : q = 8 := by omega
              rw [prw_end H _ hH8.out hll.out, ← HN.out] at f2
              go_wp2_with fail
              exact ⟨⟨k + 1, by omega, by go_num, f1, f2, f3, hBr⟩, by simp [intOf]; omega⟩
    · obtain rfl : k = n := by omega
      have HDD : Hid (dig T.data.toList = bytesW H) := by show _ = _; rw [HD.out, hH]
      clear hH HD
      go_wp2_with (first
        | ((with_reducible refine at_alloc 23 ?_); refine L_alloc 23 _ zero23 ?_; intro w5 h5 hb5)
        | ((with_reducible refine at_store 23 ?_); refine L_store_all 23 _ _ wr.heap.size (bc (List.replicate 32 0)) _ 23 rfl rfl hb5 size23 rfl (bc_one _) ?_; intro w6 h6 hb6))
      have p5 : wr.heap.size < w5.heap.size := hb5.lt
      have f1 := h6.blk (h5.blk d1 (by omega)) (by omega)
      have f2 := h6.blk (h5.blk d2 (by omega)) (by omega)
      have hB6 : Below w.heap.size w w6 := h6.below (h5.below hbw hbw.size) hbw.size
      have hszr : w.heap.size ≤ wr.heap.size := hbw.size
      obtain ⟨bo, hbo⟩ : ∃ bo, wr.heap.size = bo := ⟨_, rfl⟩
      rw [hbo] at hb6 m1 m2 m3 hszr ⊢
      clear h5 h6 hb5 d1 d2 d3 hbw p5 hlt
      obtain ⟨B, hB⟩ : ∃ B, bytesW H = B := ⟨_, rfl⟩
      have hBl : B.length = 32 := by rw [← hB, bytesW_length, hHl]
      have HBB : Hid (bytesW H = B) := hB
      have HHL : Hid (H.length = 8) := hHl
      have HBL : Hid (B.length = 32) := hBl
      clear hB hbo hHl hBl
      go_loopw [16] (fun i wq => ∃ j : Nat, j ≤ 32 ∧ i = .int .i64 j ∧ Blk wq bo (bc (opl B j)) 23 ∧ Blk wq w.heap.size (bc (List.replicate 32 0)) 23 ∧ Blk wq w1.heap.size (c32 H) 157 ∧ Below w.heap.size w wq) (fun i _ => 32 - (intOf i).toNat)
      case atStart => exact ⟨0, by omega, rfl, hb6, f1, f2, hB6⟩
      case round =>
        clear hb6 f1 f2 hB6
        obtain ⟨j, hj, rfl, f0, f1, f2, hB6⟩ := hrel
        by_cases hlt4 : j < 32
        · obtain ⟨q, hq⟩ : ∃ q, j / 4 = q := ⟨_, rfl⟩
          have hq8 : q < 8 := by omega
          have r1 := f2.cell q _ (c32_at H q (by rw [HHL.out]; exact hq8))
          have hby := bytesW_at H j (by rw [HHL.out]; omega)
          rw [HBB.out, hq] at hby
          have r2 := f0.cell j _ (bc_at _ j (by rw [opl_length B j HBL.out hj]; exact hlt4))
          have hf := f0.frozen j
          have hqi : (j : Int) / 4 = (q : Int) := by omega
          have i9 : (j : Int) < 32 := by omega
          have i8 : (q : Int) < 8 := by omega
          generalize H.getD q 0 = x at *
          clear hq
          have hx := x.isLt
          rcases (show j % 4 = 0 ∨ j % 4 = 1 ∨ j % 4 = 2 ∨ j % 4 = 3 by omega) with hr | hr | hr | hr
          · have hm : (j : Int) % 4 = 0 := by omega
            rw [hr, show 256 ^ (3 - 0) = 16777216 from rfl] at hby
            have hv := byte_is x 16777216
            have hst : Hid ((opl B j).set j (UInt8.ofNat (x.toNat / 16777216 % 256)) = opl B (j + 1)) := opl_step B j HBL.out hlt4 _ hby
            generalize UInt8.ofNat (x.toNat / 16777216 % 256) = y at *
            clear hby hr
            go_wp2_with fail
            rw [show (x.toNat : Int) / 16777216 = (y.toNat : Int) by omega]
            obtain ⟨t1, t2⟩ := turn_setCell wr bo j (.int .u8 (y.toNat : Int)) _ 23 f0
            rw [bc_set, hst.out] at t2
            exact ⟨⟨j + 1, by omega, by go_num, t2, t1.blk f1 (by omega), t1.blk f2 (by omega), t1.below hB6 hszr⟩, by simp [intOf]; omega⟩
          · have hm : (j : Int) % 4 = 1 := by omega
            rw [hr, show 256 ^ (3 - 1) = 65536 from rfl] at hby
            have hv := byte_is x 65536
            have hst : Hid ((opl B j).set j (UInt8.ofNat (x.toNat / 65536 % 256)) = opl B (j + 1)) := opl_step B j HBL.out hlt4 _ hby
            generalize UInt8.ofNat (x.toNat / 65536 % 256) = y at *
            clear hby hr
            go_wp2_with fail
            rw [show (x.toNat : Int) / 65536 % 256 = (y.toNat : Int) by omega]
            obtain ⟨t1, t2⟩ := turn_setCell wr bo j (.int .u8 (y.toNat : Int)) _ 23 f0
            rw [bc_set, hst.out] at t2
            exact ⟨⟨j + 1, by omega, by go_num, t2, t1.blk f1 (by omega), t1.blk f2 (by omega), t1.below hB6 hszr⟩, by simp [intOf]; omega⟩
          · have hm : (j : Int) % 4 = 2 := by omega
            rw [hr, show 256 ^ (3 - 2) = 256 from rfl] at hby
            have hv := byte_is x 256
            have hst : Hid ((opl B j).set j (UInt8.ofNat (x.toNat / 256 % 256)) = opl B (j + 1)) := opl_step B j HBL.out hlt4 _ hby
            generalize UInt8.ofNat (x.toNat / 256 % 256) = y at *
            clear hby hr
            go_wp2_with fail
            rw [show (x.toNat : Int) / 256 % 256 = (y.toNat : Int) by omega]
            obtain ⟨t1, t2⟩ := turn_setCell wr bo j (.int .u8 (y.toNat : Int)) _ 23 f0
            rw [bc_set, hst.out] at t2
            exact ⟨⟨j + 1, by omega, by go_num, t2, t1.blk f1 (by omega), t1.blk f2 (by omega), t1.below hB6 hszr⟩, by simp [intOf]; omega⟩
          · have hm : (j : Int) % 4 = 3 := by omega
            rw [hr, show 256 ^ (3 - 3) = 1 from rfl] at hby
            have hv := byte_is x 1
            have hst : Hid ((opl B j).set j (UInt8.ofNat (x.toNat / 1 % 256)) = opl B (j + 1)) := opl_step B j HBL.out hlt4 _ hby
            generalize UInt8.ofNat (x.toNat / 1 % 256) = y at *
            clear hby hr
            go_wp2_with fail
            rw [show (x.toNat : Int) % 256 = (y.toNat : Int) by omega]
            obtain ⟨t1, t2⟩ := turn_setCell wr bo j (.int .u8 (y.toNat : Int)) _ 23 f0
            rw [bc_set, hst.out] at t2
            exact ⟨⟨j + 1, by omega, by go_num, t2, t1.blk f1 (by omega), t1.blk f2 (by omega), t1.below hB6 hszr⟩, by simp [intOf]; omega⟩
        · obtain rfl : j = 32 := by omega
          rw [opl_end B HBL.out] at f0
          have hz : Hid ((Tryz.prog.info? 23).map (·.size) = some (bc B).length) := zk23 B HBL.out
          have HL : Hid ((bc B).length = (bc (List.replicate 32 0)).length) := by show _ = _; rw [bc_length, HBL.out]; rfl
          go_wp2_with (first
            | ((with_reducible refine at_load 23 ?_); refine L_load_all 23 _ bo _ 23 _ rfl f0 Tryz.underlying23 rfl hz.out ?_)
            | ((with_reducible refine at_store 23 ?_); refine L_store_all 23 _ _ w.heap.size (bc B) _ 23 rfl rfl f1 hz.out HL.out (bc_one _) ?_; intro w8 h8 hb8))
          (try simp only [Exit.inBlock, Exit.then])
          rw [HDD.out, HBB.out]
          exact bodyPost_ret (results_blk rfl w.heap.size (bc B) _ rfl hb8 Tryz.underlying23 rfl hz.out) rfl ⟨rfl, h8.below hB6 (Nat.le_refl _)⟩
end Go.Proofs.YtcclcemdodoiiaaGreatDoor
