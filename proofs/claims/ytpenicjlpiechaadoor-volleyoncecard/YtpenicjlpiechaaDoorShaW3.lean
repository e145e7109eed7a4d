/- What the program's sha.through answers. -/
import Derived.Test.YtpenicjlpiechaaDoorShaW2
namespace Go.Proofs.YtpenicjlpiechaaDoor
set_option maxRecDepth 10000
open Go.RowKit
set_option linter.unusedVariables false
theorem and32 (a b : BitVec 32) : bits .and .u32 (a.toNat : Int) (b.toNat : Int) = ((an a b).toNat : Int) := by
  rw [u32_and_nat _ _ a.isLt b.isLt, an, BitVec.toNat_and]
theorem not32 (a : BitVec 32) : bits .xor .u32 (if IntKind.u32.signed = true then -1 else IntKind.u32.max) (a.toNat : Int) = ((nt a).toNat : Int) := by
  have e : nt a = BitVec.allOnes 32 ^^^ a := by
    apply BitVec.eq_of_getLsbD_eq
    intro i hi
    simp only [nt, BitVec.getLsbD_not, BitVec.getLsbD_xor, BitVec.getLsbD_allOnes, hi, decide_true, Bool.true_and, Bool.true_xor]
  have e2 : (if IntKind.u32.signed = true then (-1 : Int) else IntKind.u32.max) = ((4294967295 : Nat) : Int) := by decide
  rw [e2, u32_xor_nat _ _ (by decide) a.isLt, e, BitVec.toNat_xor]
  rfl
/-- What through has laid after k rounds of its second loop. -/
def prw (g l : List (BitVec 32)) (k : Nat) : List (BitVec 32) := (List.zipWith ad g l).take k ++ g.drop k
theorem prw_length (g l : List (BitVec 32)) (k : Nat) (hg : g.length = 8) (hl : l.length = 8) (hk : k ≤ 8) : (prw g l k).length = 8 := by
  simp [prw, hg, hl]; omega
theorem prw_at (g l : List (BitVec 32)) (k : Nat) (hg : g.length = 8) (hl : l.length = 8) (hk : k < 8) : (prw g l k).getD k 0 = g.getD k 0 := by
  simp only [prw, List.getD_eq_getElem?_getD]
  rw [List.getElem?_append_right (by simp; omega)]
  simp [show k - min k 8 = 0 by omega, hg, hl]
theorem prw_step (g l : List (BitVec 32)) (k : Nat) (hg : g.length = 8) (hl : l.length = 8) (hk : k < 8) : (prw g l k).set k (ad (g.getD k 0) (l.getD k 0)) = prw g l (k + 1) := by
  have h1 : (List.zipWith ad g l).length = 8 := by simp [hg, hl]
  have e : ad (g.getD k 0) (l.getD k 0) = (List.zipWith ad g l)[k] := by simp [hg, hl, hk]
  rw [e, prw, prw, List.set_append_right _ _ (by simp; omega), List.take_succ_eq_append_getElem (l := List.zipWith ad g l) (by omega)]
  simp only [List.length_take, h1, show k - min k 8 = 0 by omega]
  rw [List.drop_eq_getElem_cons (by omega), List.set_cons_zero, List.append_assoc, List.singleton_append]
theorem prw_end (g l : List (BitVec 32)) (hg : g.length = 8) (hl : l.length = 8) : prw g l 8 = List.zipWith ad g l := by
  rw [prw, List.take_of_length_le (by simp [hg, hl]), List.drop_eq_nil_of_le (by omega), List.append_nil]
set_option maxRecDepth 100000 in
set_option maxHeartbeats 1000000 in
theorem through_any (g : List (BitVec 32)) (b : List UInt8) (hg : g.length = 8) (hb : b.length = 64) (w : World) (hT : Tabs w) :
    Calls Tryd.prog 90 #[.agg (c32 g).toArray, .agg (bc b).toArray] w fun e w' => e = .returned (.agg (c32 (thr g b)).toArray) ∧ Below w.heap.size w w' := by
  have hts := hT.size
  have hzg : Hid ((Tryd.prog.info? 134).map (·.size) = some (c32 g).length) := by show _ = _; rw [c32_length, hg]; exact size134
  have hzr : Hid ((Tryd.prog.info? 134).map (·.size) = some (c32 (reach g)).length) := by show _ = _; rw [c32_length, reach_length g hg]; exact size134
  have hzr' : Hid ((c32 (reach g)).length = (c32 (List.replicate 8 0)).length) := by show _ = _; rw [c32_length, reach_length g hg]; rfl
  have hzb : Hid ((Tryd.prog.info? 132).map (·.size) = some (bc b).length) := by show _ = _; rw [bc_length, hb]; exact size132
  go_enter Tryd.func90, Tryd.ntmps90
  go_wp2_with (first
    | ((with_reducible refine at_box 134 ?_); refine L_box 134 _ (c32 g) rfl ?_; intro w1 h1 hb1)
    | ((with_reducible refine at_box 132 ?_); refine L_box 132 _ (bc b) rfl ?_; intro w2 h2 hb2)
    | ((with_reducible refine at_alloc 134 ?_); refine L_alloc 134 _ zero134 ?_; intro w3 h3 hb3)
    | ((with_reducible refine at_load 134 ?_); refine L_load_all 134 _ w.heap.size _ 134 _ rfl (h3.blk (h2.blk hb1 (by have := hb1.lt; omega)) (by have := hb1.lt; have := h2.size; omega)) Tryd.underlying134 rfl hzg.out ?_))
  have n1 : w.heap.size < w1.heap.size := hb1.lt
  have n2 : w1.heap.size < w2.heap.size := hb2.lt
  have n3 : w2.heap.size < w3.heap.size := hb3.lt
  have b1 := h3.blk (h2.blk hb1 (by omega)) (by omega)
  have b2 := h3.blk hb2 (by omega)
  have hB2 : Below w.heap.size w w2 := h2.below (h1.below (Below.refl _ _) (Nat.le_refl _)) h1.size
  have hB3 : Below w.heap.size w w3 := h3.below hB2 hB2.size
  clear h1 h2 h3 hb1 hb2 hB2
  refine (reached_any g hg w3 (hT.below hB3 hts)).mono ?_; rintro e w4 ⟨rfl, hb4⟩
  have c1 := b1.below hb4 (by omega)
  have c2 := b2.below hb4 (by omega)
  have c3 := hb3.below hb4 (by omega)
  have n4 : w3.heap.size ≤ w4.heap.size := hb4.size
  have hB4 : Below w.heap.size w w4 := hB3.trans (hb4.mono (by omega))
  clear b1 b2 hb3 hB3 hb4
  go_wp2_with (first
    | ((with_reducible refine at_alloc 134 ?_); refine L_alloc 134 _ zero134 ?_; intro w5 h5 hb5)
    | ((with_reducible refine at_store 134 ?_); refine L_store_all 134 _ _ w4.heap.size (c32 (reach g)) _ 134 rfl rfl hb5 hzr.out hzr'.out (c32_one _) ?_; intro w6 h6 hb6))
  have hB5 : Below w.heap.size w w5 := h5.below hB4 (by omega)
  have hB6 : Below w.heap.size w w6 := h6.below hB5 (by omega)
  have d1 := h6.blk (h5.blk c1 (by omega)) (by omega)
  have d2 := h6.blk (h5.blk c2 (by omega)) (by omega)
  have d3 := h6.blk (h5.blk c3 (by omega)) (by omega)
  have n6 : w4.heap.size < w6.heap.size := hb6.lt
  have hrl := reach_length g hg
  have r0 := hb6.cell 0 _ (c32_at _ 0 (by omega))
  have r1 := hb6.cell 1 _ (c32_at _ 1 (by omega))
  have r2 := hb6.cell 2 _ (c32_at _ 2 (by omega))
  have r3 := hb6.cell 3 _ (c32_at _ 3 (by omega))
  have r4 := hb6.cell 4 _ (c32_at _ 4 (by omega))
  have r5 := hb6.cell 5 _ (c32_at _ 5 (by omega))
  have r6 := hb6.cell 6 _ (c32_at _ 6 (by omega))
  have r7 := hb6.cell 7 _ (c32_at _ 7 (by omega))
  clear c1 c2 c3 h5 h6 hb5 hb6 hB4 hB5 hrl
  obtain ⟨s0, hs0⟩ : ∃ s0, R8.of (reach g) = s0 := ⟨_, rfl⟩
  have e0 : (reach g).getD 0 0 = s0.a := by rw [← hs0]; rfl
  have e1 : (reach g).getD 1 0 = s0.b := by rw [← hs0]; rfl
  have e2 : (reach g).getD 2 0 = s0.c := by rw [← hs0]; rfl
  have e3 : (reach g).getD 3 0 = s0.d := by rw [← hs0]; rfl
  have e4 : (reach g).getD 4 0 = s0.e := by rw [← hs0]; rfl
  have e5 : (reach g).getD 5 0 = s0.f := by rw [← hs0]; rfl
  have e6 : (reach g).getD 6 0 = s0.g := by rw [← hs0]; rfl
  have e7 : (reach g).getD 7 0 = s0.h := by rw [← hs0]; rfl
  rw [e0] at r0; rw [e1] at r1; rw [e2] at r2; rw [e3] at r3; rw [e4] at r4; rw [e5] at r5; rw [e6] at r6; rw [e7] at r7
  have HS : Hid (R8.of (reach g) = s0) := hs0
  clear e0 e1 e2 e3 e4 e5 e6 e7 hs0
  go_quiet (fail)
  clear r0 r1 r2 r3 r4 r5 r6 r7
  go_wp2_with (first
    | ((with_reducible refine at_load 132 ?_); refine L_load_all 132 _ w1.heap.size _ 132 _ rfl (show Blk (w6.drewN nq) w1.heap.size (bc b) 132 from d2) Tryd.underlying132 rfl hzb.out ?_))
  refine (spread_any b hb _).mono ?_; rintro e w7 ⟨rfl, hb7⟩
  have hb7 : Below w6.heap.size w6 w7 := ⟨hb7.os, hb7.tape, hb7.output, hb7.size, hb7.block⟩
  have c1 := d1.below hb7 (by omega)
  have c3 := d3.below hb7 (by omega)
  have hB7 : Below w.heap.size w w7 := hB6.trans (hb7.mono (by omega))
  clear d1 d2 d3 hb7 hB6
  have hxor := xor32
  have hadd := add32
  have hand := and32
  have hnot := not32
  obtain ⟨W, hW⟩ : ∃ W, spr b = W := ⟨_, rfl⟩
  have hWl : Hid (W.length = 64) := by show _ = _; rw [← hW]; exact spr_length b
  rw [hW]
  have HW : Hid (spr b = W) := hW
  clear hW
  go_wp2_with fail
  go_loopw [6, 7, 8, 9, 10, 11, 12, 13, 40] (fun v6 v7 v8 v9 v10 v11 v12 v13 i wr => ∃ (k : Nat) (s : R8), k ≤ 64 ∧ i = .int .i64 k ∧ v6 = .int .u32 s.a.toNat ∧ v7 = .int .u32 s.b.toNat ∧ v8 = .int .u32 s.c.toNat ∧ v9 = .int .u32 s.d.toNat ∧ v10 = .int .u32 s.e.toNat ∧ v11 = .int .u32 s.f.toNat ∧ v12 = .int .u32 s.g.toNat ∧ v13 = .int .u32 s.h.toNat ∧ Hid (s = rnd W s0 k) ∧ Blk wr w.heap.size (c32 g) 134 ∧ Blk wr w2.heap.size (c32 (List.replicate 8 0)) 134 ∧ Below w.heap.size w wr) (fun _ _ _ _ _ _ _ _ i _ => 64 - (intOf i).toNat)
  case atStart => exact ⟨0, s0, by omega, rfl, rfl, rfl, rfl, rfl, rfl, rfl, rfl, rfl, rfl, c1, c3, hB7⟩
  case round =>
    clear c1 c3 hB7
    obtain ⟨k, s, hk, rfl, rfl, rfl, rfl, rfl, rfl, rfl, rfl, rfl, hs, c1, c3, hbw⟩ := hrel
    by_cases hlt : k < 64
    · have hx := c32_at W k (by have := hWl.out; omega)
      have hkk := (hT.below hbw hts).k k hlt
      have hs' : Hid (stp s (kon.getD k 0) (W.getD k 0) = rnd W s0 (k + 1)) := by show _ = _; rw [rnd, ← hs.out]
      generalize kon.getD k 0 = kk at *
      generalize W.getD k 0 = ww at *
      have i9 : (k : Int) < 64 := by omega
      have hix := run_index_arr wr 144 56 64 k k _ _ Tryd.underlying144 Tryd.isAgg56 Tryd.sizeOf56 rfl hlt hx
      clear hx
      go_wp2_with fail
      go_quiet ((go_at_call 94; exact Calls.quiet_of_same (left_rl _ _ _)))
      go_wp2_with (go_at_call 94; refine (left_rl _ _ _).mono ?_; rintro e w' ⟨rfl, rfl⟩)
      exact ⟨⟨k + 1, stp s kk ww, by omega, by go_num, congrArg _ (add32 _ _), rfl, rfl, rfl, congrArg _ (add32 _ _), rfl, rfl, rfl, hs', c1, c3, ⟨hbw.os, hbw.tape, hbw.output, hbw.size, hbw.block⟩⟩, by simp [intOf]; omega⟩
    · have hd : decide ((k : Int) < 64) = false := by simp; omega
      have hs2 : Hid (s = rnd W s0 64) := by show _ = _; rw [hs.out, show k = 64 by omega]
      clear hs
      have hfin : Hid (thr g b = List.zipWith ad g s.list) := by show _ = _; rw [thr, HW.out, HS.out, hs2.out]
      have hll : Hid (s.list.length = 8) := rfl
      have c1 : Blk wr w.heap.size (c32 (prw g s.list 0)) 134 := by simpa [prw] using c1
      go_wp2_with fail
      clear hk hlt hd hs2 hand hnot hxor
      go_loopw [111] (fun i wr => ∃ k : Nat, k ≤ 8 ∧ i = .int .i64 k ∧ Blk wr w.heap.size (c32 (prw g s.list k)) 134 ∧ Blk wr w2.heap.size (c32 (List.replicate 8 0)) 134 ∧ Below w.heap.size w wr) (fun i _ => 8 - (intOf i).toNat)
      case atStart => exact ⟨0, by omega, rfl, c1, c3, hbw⟩
      case round =>
        clear c1 c3 hbw
        obtain ⟨k, hk, rfl, c1, c3, hbw⟩ := hrel
        by_cases hlt : k < 8
        · have r1 := c1.cell k _ (c32_at _ k (by rw [prw_length g _ k hg hll.out hk]; exact hlt))
          rw [prw_at g _ k hg hll.out hlt] at r1
          have hf := c1.frozen k
          have hix : (Instr.index 134 (.agg #[.int .u32 s.a.toNat, .int .u32 s.b.toNat, .int .u32 s.c.toNat, .int .u32 s.d.toNat, .int .u32 s.e.toNat, .int .u32 s.f.toNat, .int .u32 s.g.toNat, .int .u32 s.h.toNat]) (.int .i64 k)).run Tryd.prog wr = .ok (.int .u32 (s.list.getD k 0).toNat) wr :=
            run_index_arr wr 134 56 8 k k (c32 s.list) _ Tryd.underlying134 Tryd.isAgg56 Tryd.sizeOf56 rfl hlt (c32_at _ k hlt)
          have hst : Hid ((prw g s.list k).set k (ad (g.getD k 0) (s.list.getD k 0)) = prw g s.list (k + 1)) := prw_step g _ k hg hll.out hlt
          generalize s.list.getD k 0 = y at *
          generalize g.getD k 0 = x at *
          have i9 : (k : Int) < 8 := by omega
          go_wp2_with fail
          go_roundw
          case rel =>
            obtain ⟨t1, t2⟩ := turn_setCell wr w.heap.size k (.int .u32 ((ad x y).toNat : Int)) _ 134 c1
            refine ⟨k + 1, by omega, by go_num, ?_, t1.blk c3 (by omega), t1.below hbw (by omega)⟩
            rw [c32_set, hst.out] at t2
            exact t2
          case measure => simp [intOf]; omega
        · obtain rfl : k = 8 := by omega
          rw [prw_end g _ hg hll.out, ← hfin.out] at c1
          have hl8 : (c32 (thr g b)).length = 8 := by rw [c32_length, thr_length g b hg]
          have hz : Hid ((Tryd.prog.info? 134).map (·.size) = some (c32 (thr g b)).length) := by rw [hl8]; exact size134
          have HL : Hid ((c32 (thr g b)).length = (c32 (List.replicate 8 0)).length) := by rw [hl8]; rfl
          clear hl8
          go_wp2_with (first
            | ((with_reducible refine at_load 134 ?_); refine L_load_all 134 _ w.heap.size _ 134 _ rfl c1 Tryd.underlying134 rfl hz.out ?_)
            | ((with_reducible refine at_store 134 ?_); refine L_store_all 134 _ _ w2.heap.size (c32 (thr g b)) _ 134 rfl rfl c3 hz.out HL.out (c32_one _) ?_; intro w8 h8 hb8))
          (try simp only [Exit.inBlock, Exit.then])
          refine bodyPost_ret (results_blk rfl w2.heap.size (c32 (thr g b)) _ rfl hb8 Tryd.underlying134 rfl hz.out) rfl ⟨rfl, h8.below hbw (by omega)⟩
end Go.Proofs.YtpenicjlpiechaaDoor
