/- What the reference's Times answers. -/
import Derived.Test.YtpenicjlpiechaaDoorQRefWide
namespace Go.Proofs.YtpenicjlpiechaaDoor.Wd
set_option maxRecDepth 10000
open Go Go.RowKit
set_option linter.unusedVariables false
theorem times_step (a d o : Nat) (x : Bool) (h : o = a * d) : 2 * o + bit x * a = a * (bit x + 2 * d) := by
  rw [h, Nat.mul_add, Nat.mul_comm (bit x) a, Nat.add_comm, ← Nat.mul_assoc, ← Nat.mul_assoc, Nat.mul_comm 2 a]

theorem bit_cell {w w' : World} {g cap : Nat} {l : List Bool} (hb : Below w.heap.size w w') (h : Rd w (.slice (some ⟨g, 0, none⟩) l.length cap) l) (k : Nat) (hk : k < l.length) : w'.cell? ⟨g, k, none⟩ = some (.bool (atB l k)) := by
  obtain ⟨g2, cap2, sp, e, h1, h2, h3, h4⟩ := h.below hb
  simp only [Value.slice.injEq, Option.some.injEq, Addr.mk.injEq, and_true, true_and] at e
  obtain ⟨rfl, rfl⟩ := e
  exact Rd.cell (cap := 0) (n := 0) h4 k hk

set_option maxRecDepth 10000 in
set_option maxHeartbeats 8000000 in
theorem rtimes_00 (ba : Value) (gb cb : Nat) (la lb : List Bool) (z : Int) (w : World) (rda : Rd w ba la) (rdb : Rd w (.slice (some ⟨gb, 0, none⟩) lb.length cb) lb) (na : la.length ≤ 200) (nb : lb.length ≤ 200) (hz : Hid ((if false then -((val la * val lb : Nat) : Int) else ((val la * val lb : Nat) : Int)) = z)) :
    Calls Tryd.prog 59 #[.agg #[.bool false, ba], .agg #[.bool false, .slice (some ⟨gb, 0, none⟩) lb.length cb]] w fun e w' => ∃ u, e = .returned u ∧ RN w' u z ∧ Below w.heap.size w w' := by
  go_enter Tryd.func59, Tryd.ntmps59
  go_wp2_with (first
    | ((with_reducible refine at_boxD 2 72 ?_); refine L_box 72 _ ([.bool false, ba]) rfl ?_; intro w1 t_ b_a; have l_a : w.heap.size ≤ w.heap.size := Nat.le_refl _; have hB : Below w.heap.size w w1 := t_.below (Below.refl _ _) (Nat.le_refl _); clear t_)
    | ((with_reducible refine at_boxD 3 72 ?_); refine L_box 72 _ ([.bool false, .slice (some ⟨gb, 0, none⟩) lb.length cb]) rfl ?_; intro w2 t_ b_b; have l_b : w.heap.size ≤ w1.heap.size := hB.size; have o_b := b_a.lt; replace b_a := t_.blk b_a (by omega); replace hB := t_.below hB l_b; clear t_)
    | ((with_reducible refine at_allocD 4 72 ?_); refine L_alloc 72 ([.bool false, .slice none 0 0]) zeroR ?_; intro w3 t_ b_r; have l_r : w.heap.size ≤ w2.heap.size := hB.size; have o_r := b_b.lt; replace b_a := t_.blk b_a (by omega); replace b_b := t_.blk b_b (by omega); replace hB := t_.below hB l_r; clear t_)
    | ((with_reducible refine at_build 0 ?_); refine L_b0 ?_; intro w9 t9 b9; have rdo1 := (own0 b9 (Nat.le_refl _)).rd (by simp); replace b_a := b_a.below t9.toBelow b_a.lt; replace b_b := b_b.below t9.toBelow b_b.lt; replace b_r := b_r.below t9.toBelow b_r.lt; replace hB := hB.trans (t9.toBelow.mono hB.size); clear t9 b9; have cb1 := b_b.cell 1 _ rfl))
  have hrd0 : Hid (∃ lo, Rd w9 (.slice (some ⟨w3.heap.size, 0, none⟩) 0 0) lo ∧ val lo = val la * val (lb.drop lb.length) ∧ lo.length ≤ la.length + 1 + 2 * (lb.length - lb.length)) := ⟨[], rdo1, by rw [List.drop_length]; rfl, by simp⟩
  clear rdo1 cb1
  go_loopw [5, 6] (fun ov i wr => ∃ k : Nat, k ≤ lb.length ∧ i = .int .i64 ((k : Int) - 1) ∧ Blk wr w.heap.size [.bool false, ba] 72 ∧ Blk wr w1.heap.size [.bool false, .slice (some ⟨gb, 0, none⟩) lb.length cb] 72 ∧ Blk wr w2.heap.size [.bool false, .slice none 0 0] 72 ∧ Below w.heap.size w wr ∧ Hid (∃ lo, Rd wr ov lo ∧ val lo = val la * val (lb.drop k) ∧ lo.length ≤ la.length + 1 + 2 * (lb.length - k))) (fun _ i _ => (intOf i + 1).toNat)
  case atStart => exact ⟨lb.length, Nat.le_refl _, rfl, b_a, b_b, b_r, hB, hrd0⟩
  case round =>
    clear b_a b_b b_r hB hrd0
    obtain ⟨k, hk, rfl, b_a, b_b, b_r, hB, hlo⟩ := hrel
    obtain ⟨lo, rdo, hvo, hno⟩ := hlo.out
    obtain ⟨go_, co_, spo, eo, -⟩ := id rdo
    subst eo
    clear hlo
    rcases k with _ | k
    · have hz2 : Hid (iv false lo = z) := by show _ = _; rw [← hz.out, iv, hvo, List.drop_zero]; try simp
      clear hvo
      go_wp2_with (first
        | ((with_reducible refine at_loadD 29 4 ?_); refine L_give (by rfl) (g_cell4 _ (w.heap.size) 0 ([.bool false, ba]) 72 (.bool false) rfl b_a (rfl) ?_))
        | ((with_reducible refine at_loadD 31 4 ?_); refine L_give (by rfl) (g_cell4 _ (w1.heap.size) 0 ([.bool false, .slice (some ⟨gb, 0, none⟩) lb.length cb]) 72 (.bool false) rfl b_b (rfl) ?_)))
      refine (bare_n false _ lo z wr rdo (by omega) hz2).mono ?_
      rintro e w31 ⟨_, rfl, ⟨s_n35, v_n35, rfl, r_n35⟩, t_⟩
      replace rdo := rdo.below t_
      replace b_a := b_a.below t_ b_a.lt
      replace b_b := b_b.below t_ b_b.lt
      replace b_r := b_r.below t_ b_r.lt
      replace hB := hB.trans (t_.mono hB.size)
      clear t_
      go_wp2_with (first
        | ((with_reducible refine at_storeX 4 72 ?_); refine L_store_all 72 _ _ (w2.heap.size) ([.bool s_n35, v_n35]) _ 72 rfl rfl b_r (szR) (rfl) (one_rc _ _ r_n35.sl) ?_; have b0_r := b_r; clear b_r; intro w32 t_ b_r; replace rdo := rdo.turn t_ b0_r (by decide); replace r_n35 := r_n35.turn t_ b0_r (by decide); replace b_a := t_.blk b_a (by omega); replace b_b := t_.blk b_b (by omega); replace hB := t_.below hB l_r; clear t_ b0_r))
      (try simp only [Exit.inBlock, Exit.then])
      exact bodyPost_ret (results_blk rfl _ _ _ rfl b_r Tryd.underlying72 rfl szR) rfl ⟨_, rfl, ⟨_, _, rfl, r_n35⟩, hB⟩
    · have hke : ((k + 1 : Nat) : Int) - 1 = (k : Int) := by omega
      rw [hke]
      clear hke
      obtain ⟨x, hx⟩ : ∃ x, atB lb k = x := ⟨_, rfl⟩
      have hstep := times_step (val la) (val (lb.drop (k + 1))) (val lo) x hvo
      rw [← hx, ← val_drop lb k, hx] at hstep
      replace hstep : Hid _ := hstep
      have hki : (k : Int) < (lb.length : Int) := by omega
      replace hx : Hid _ := hx
      clear hvo
      have hsz := hB.size
      cases x
      · skip
        go_wp2_with (first
          | ((with_reducible refine at_build 1 ?_); refine L_b1 _ false rfl ?_; intro w4 t4 b4)
          | ((with_reducible refine at_append ?_); refine L_app _ _ wr.heap.size _ _ [false] lo rfl rfl (own1 b4 (Nat.le_refl _)) (rdo.below t4.toBelow) (by simp; omega) t4.size ?_; intro v5 w5 o5 b5 n5; have hB5 : Below wr.heap.size wr w5 := t4.toBelow.trans b5; have q_a := b_a.below hB5 b_a.lt; have q_b := b_b.below hB5 b_b.lt; have q_r := b_r.below hB5 b_r.lt; have hBw := hB.trans (hB5.mono hsz); have hcb := bit_cell hBw rdb k (by omega); rw [hx.out] at hcb; have cb1 := q_b.cell 1 _ rfl; have ca1 := q_a.cell 1 _ rfl))
        have rd5 := o5.rd (o5.nonnil (by simp))
        clear hcb cb1 ca1
        skip
        refine ⟨⟨k, by omega, by go_num, q_a, q_b, q_r, hBw, [false] ++ lo, rd5, ?_, ?_⟩, by simp [intOf]⟩
        · rw [← hstep.out]; simp [val, bit]
        · simp; omega
      · skip
        go_wp2_with (first
          | ((with_reducible refine at_build 1 ?_); refine L_b1 _ false rfl ?_; intro w4 t4 b4)
          | ((with_reducible refine at_append ?_); refine L_app _ _ wr.heap.size _ _ [false] lo rfl rfl (own1 b4 (Nat.le_refl _)) (rdo.below t4.toBelow) (by simp; omega) t4.size ?_; intro v5 w5 o5 b5 n5; have hB5 : Below wr.heap.size wr w5 := t4.toBelow.trans b5; have q_a := b_a.below hB5 b_a.lt; have q_b := b_b.below hB5 b_b.lt; have q_r := b_r.below hB5 b_r.lt; have hBw := hB.trans (hB5.mono hsz); have hcb := bit_cell hBw rdb k (by omega); rw [hx.out] at hcb; have cb1 := q_b.cell 1 _ rfl; have ca1 := q_a.cell 1 _ rfl))
        have rd5 := o5.rd (o5.nonnil (by simp))
        refine (sum_any v5 ba ([false] ++ lo) la w5 rd5 (rda.below hBw) (by simp; omega) (by omega)).mono ?_
        rintro e w6 ⟨v6, rfl, ⟨l6, rd6, hv6, hn6⟩, t6⟩
        have z_a := q_a.below t6 q_a.lt
        have z_b := q_b.below t6 q_b.lt
        have z_r := q_r.below t6 q_r.lt
        have hBz := hBw.trans (t6.mono hBw.size)
        clear hcb cb1 ca1
        go_wp2_with fail
        refine ⟨⟨k, by omega, by go_num, z_a, z_b, z_r, hBz, l6, rd6, ?_, ?_⟩, by simp [intOf]⟩
        · rw [hv6, ← hstep.out]; simp [val, bit]
        · simp at hn6; omega

set_option maxRecDepth 10000 in
set_option maxHeartbeats 8000000 in
theorem rtimes_01 (ba : Value) (gb cb : Nat) (la lb : List Bool) (z : Int) (w : World) (rda : Rd w ba la) (rdb : Rd w (.slice (some ⟨gb, 0, none⟩) lb.length cb) lb) (na : la.length ≤ 200) (nb : lb.length ≤ 200) (hz : Hid ((if true then -((val la * val lb : Nat) : Int) else ((val la * val lb : Nat) : Int)) = z)) :
    Calls Tryd.prog 59 #[.agg #[.bool false, ba], .agg #[.bool true, .slice (some ⟨gb, 0, none⟩) lb.length cb]] w fun e w' => ∃ u, e = .returned u ∧ RN w' u z ∧ Below w.heap.size w w' := by
  go_enter Tryd.func59, Tryd.ntmps59
  go_wp2_with (first
    | ((with_reducible refine at_boxD 2 72 ?_); refine L_box 72 _ ([.bool false, ba]) rfl ?_; intro w1 t_ b_a; have l_a : w.heap.size ≤ w.heap.size := Nat.le_refl _; have hB : Below w.heap.size w w1 := t_.below (Below.refl _ _) (Nat.le_refl _); clear t_)
    | ((with_reducible refine at_boxD 3 72 ?_); refine L_box 72 _ ([.bool true, .slice (some ⟨gb, 0, none⟩) lb.length cb]) rfl ?_; intro w2 t_ b_b; have l_b : w.heap.size ≤ w1.heap.size := hB.size; have o_b := b_a.lt; replace b_a := t_.blk b_a (by omega); replace hB := t_.below hB l_b; clear t_)
    | ((with_reducible refine at_allocD 4 72 ?_); refine L_alloc 72 ([.bool false, .slice none 0 0]) zeroR ?_; intro w3 t_ b_r; have l_r : w.heap.size ≤ w2.heap.size := hB.size; have o_r := b_b.lt; replace b_a := t_.blk b_a (by omega); replace b_b := t_.blk b_b (by omega); replace hB := t_.below hB l_r; clear t_)
    | ((with_reducible refine at_build 0 ?_); refine L_b0 ?_; intro w9 t9 b9; have rdo1 := (own0 b9 (Nat.le_refl _)).rd (by simp); replace b_a := b_a.below t9.toBelow b_a.lt; replace b_b := b_b.below t9.toBelow b_b.lt; replace b_r := b_r.below t9.toBelow b_r.lt; replace hB := hB.trans (t9.toBelow.mono hB.size); clear t9 b9; have cb1 := b_b.cell 1 _ rfl))
  have hrd0 : Hid (∃ lo, Rd w9 (.slice (some ⟨w3.heap.size, 0, none⟩) 0 0) lo ∧ val lo = val la * val (lb.drop lb.length) ∧ lo.length ≤ la.length + 1 + 2 * (lb.length - lb.length)) := ⟨[], rdo1, by rw [List.drop_length]; rfl, by simp⟩
  clear rdo1 cb1
  go_loopw [5, 6] (fun ov i wr => ∃ k : Nat, k ≤ lb.length ∧ i = .int .i64 ((k : Int) - 1) ∧ Blk wr w.heap.size [.bool false, ba] 72 ∧ Blk wr w1.heap.size [.bool true, .slice (some ⟨gb, 0, none⟩) lb.length cb] 72 ∧ Blk wr w2.heap.size [.bool false, .slice none 0 0] 72 ∧ Below w.heap.size w wr ∧ Hid (∃ lo, Rd wr ov lo ∧ val lo = val la * val (lb.drop k) ∧ lo.length ≤ la.length + 1 + 2 * (lb.length - k))) (fun _ i _ => (intOf i + 1).toNat)
  case atStart => exact ⟨lb.length, Nat.le_refl _, rfl, b_a, b_b, b_r, hB, hrd0⟩
  case round =>
    clear b_a b_b b_r hB hrd0
    obtain ⟨k, hk, rfl, b_a, b_b, b_r, hB, hlo⟩ := hrel
    obtain ⟨lo, rdo, hvo, hno⟩ := hlo.out
    obtain ⟨go_, co_, spo, eo, -⟩ := id rdo
    subst eo
    clear hlo
    rcases k with _ | k
    · have hz2 : Hid (iv true lo = z) := by show _ = _; rw [← hz.out, iv, hvo, List.drop_zero]; try simp
      clear hvo
      go_wp2_with (first
        | ((with_reducible refine at_loadD 29 4 ?_); refine L_give (by rfl) (g_cell4 _ (w.heap.size) 0 ([.bool false, ba]) 72 (.bool false) rfl b_a (rfl) ?_))
        | ((with_reducible refine at_loadD 31 4 ?_); refine L_give (by rfl) (g_cell4 _ (w1.heap.size) 0 ([.bool true, .slice (some ⟨gb, 0, none⟩) lb.length cb]) 72 (.bool true) rfl b_b (rfl) ?_)))
      refine (bare_n true _ lo z wr rdo (by omega) hz2).mono ?_
      rintro e w31 ⟨_, rfl, ⟨s_n35, v_n35, rfl, r_n35⟩, t_⟩
      replace rdo := rdo.below t_
      replace b_a := b_a.below t_ b_a.lt
      replace b_b := b_b.below t_ b_b.lt
      replace b_r := b_r.below t_ b_r.lt
      replace hB := hB.trans (t_.mono hB.size)
      clear t_
      go_wp2_with (first
        | ((with_reducible refine at_storeX 4 72 ?_); refine L_store_all 72 _ _ (w2.heap.size) ([.bool s_n35, v_n35]) _ 72 rfl rfl b_r (szR) (rfl) (one_rc _ _ r_n35.sl) ?_; have b0_r := b_r; clear b_r; intro w32 t_ b_r; replace rdo := rdo.turn t_ b0_r (by decide); replace r_n35 := r_n35.turn t_ b0_r (by decide); replace b_a := t_.blk b_a (by omega); replace b_b := t_.blk b_b (by omega); replace hB := t_.below hB l_r; clear t_ b0_r))
      (try simp only [Exit.inBlock, Exit.then])
      exact bodyPost_ret (results_blk rfl _ _ _ rfl b_r Tryd.underlying72 rfl szR) rfl ⟨_, rfl, ⟨_, _, rfl, r_n35⟩, hB⟩
    · have hke : ((k + 1 : Nat) : Int) - 1 = (k : Int) := by omega
      rw [hke]
      clear hke
      obtain ⟨x, hx⟩ : ∃ x, atB lb k = x := ⟨_, rfl⟩
      have hstep := times_step (val la) (val (lb.drop (k + 1))) (val lo) x hvo
      rw [← hx, ← val_drop lb k, hx] at hstep
      replace hstep : Hid _ := hstep
      have hki : (k : Int) < (lb.length : Int) := by omega
      replace hx : Hid _ := hx
      clear hvo
      have hsz := hB.size
      cases x
      · skip
        go_wp2_with (first
          | ((with_reducible refine at_build 1 ?_); refine L_b1 _ false rfl ?_; intro w4 t4 b4)
          | ((with_reducible refine at_append ?_); refine L_app _ _ wr.heap.size _ _ [false] lo rfl rfl (own1 b4 (Nat.le_refl _)) (rdo.below t4.toBelow) (by simp; omega) t4.size ?_; intro v5 w5 o5 b5 n5; have hB5 : Below wr.heap.size wr w5 := t4.toBelow.trans b5; have q_a := b_a.below hB5 b_a.lt; have q_b := b_b.below hB5 b_b.lt; have q_r := b_r.below hB5 b_r.lt; have hBw := hB.trans (hB5.mono hsz); have hcb := bit_cell hBw rdb k (by omega); rw [hx.out] at hcb; have cb1 := q_b.cell 1 _ rfl; have ca1 := q_a.cell 1 _ rfl))
        have rd5 := o5.rd (o5.nonnil (by simp))
        clear hcb cb1 ca1
        skip
        refine ⟨⟨k, by omega, by go_num, q_a, q_b, q_r, hBw, [false] ++ lo, rd5, ?_, ?_⟩, by simp [intOf]⟩
        · rw [← hstep.out]; simp [val, bit]
        · simp; omega
      · skip
        go_wp2_with (first
          | ((with_reducible refine at_build 1 ?_); refine L_b1 _ false rfl ?_; intro w4 t4 b4)
          | ((with_reducible refine at_append ?_); refine L_app _ _ wr.heap.size _ _ [false] lo rfl rfl (own1 b4 (Nat.le_refl _)) (rdo.below t4.toBelow) (by simp; omega) t4.size ?_; intro v5 w5 o5 b5 n5; have hB5 : Below wr.heap.size wr w5 := t4.toBelow.trans b5; have q_a := b_a.below hB5 b_a.lt; have q_b := b_b.below hB5 b_b.lt; have q_r := b_r.below hB5 b_r.lt; have hBw := hB.trans (hB5.mono hsz); have hcb := bit_cell hBw rdb k (by omega); rw [hx.out] at hcb; have cb1 := q_b.cell 1 _ rfl; have ca1 := q_a.cell 1 _ rfl))
        have rd5 := o5.rd (o5.nonnil (by simp))
        refine (sum_any v5 ba ([false] ++ lo) la w5 rd5 (rda.below hBw) (by simp; omega) (by omega)).mono ?_
        rintro e w6 ⟨v6, rfl, ⟨l6, rd6, hv6, hn6⟩, t6⟩
        have z_a := q_a.below t6 q_a.lt
        have z_b := q_b.below t6 q_b.lt
        have z_r := q_r.below t6 q_r.lt
        have hBz := hBw.trans (t6.mono hBw.size)
        clear hcb cb1 ca1
        go_wp2_with fail
        refine ⟨⟨k, by omega, by go_num, z_a, z_b, z_r, hBz, l6, rd6, ?_, ?_⟩, by simp [intOf]⟩
        · rw [hv6, ← hstep.out]; simp [val, bit]
        · simp at hn6; omega

set_option maxRecDepth 10000 in
set_option maxHeartbeats 8000000 in
theorem rtimes_10 (ba : Value) (gb cb : Nat) (la lb : List Bool) (z : Int) (w : World) (rda : Rd w ba la) (rdb : Rd w (.slice (some ⟨gb, 0, none⟩) lb.length cb) lb) (na : la.length ≤ 200) (nb : lb.length ≤ 200) (hz : Hid ((if true then -((val la * val lb : Nat) : Int) else ((val la * val lb : Nat) : Int)) = z)) :
    Calls Tryd.prog 59 #[.agg #[.bool true, ba], .agg #[.bool false, .slice (some ⟨gb, 0, none⟩) lb.length cb]] w fun e w' => ∃ u, e = .returned u ∧ RN w' u z ∧ Below w.heap.size w w' := by
  go_enter Tryd.func59, Tryd.ntmps59
  go_wp2_with (first
    | ((with_reducible refine at_boxD 2 72 ?_); refine L_box 72 _ ([.bool true, ba]) rfl ?_; intro w1 t_ b_a; have l_a : w.heap.size ≤ w.heap.size := Nat.le_refl _; have hB : Below w.heap.size w w1 := t_.below (Below.refl _ _) (Nat.le_refl _); clear t_)
    | ((with_reducible refine at_boxD 3 72 ?_); refine L_box 72 _ ([.bool false, .slice (some ⟨gb, 0, none⟩) lb.length cb]) rfl ?_; intro w2 t_ b_b; have l_b : w.heap.size ≤ w1.heap.size := hB.size; have o_b := b_a.lt; replace b_a := t_.blk b_a (by omega); replace hB := t_.below hB l_b; clear t_)
    | ((with_reducible refine at_allocD 4 72 ?_); refine L_alloc 72 ([.bool false, .slice none 0 0]) zeroR ?_; intro w3 t_ b_r; have l_r : w.heap.size ≤ w2.heap.size := hB.size; have o_r := b_b.lt; replace b_a := t_.blk b_a (by omega); replace b_b := t_.blk b_b (by omega); replace hB := t_.below hB l_r; clear t_)
    | ((with_reducible refine at_build 0 ?_); refine L_b0 ?_; intro w9 t9 b9; have rdo1 := (own0 b9 (Nat.le_refl _)).rd (by simp); replace b_a := b_a.below t9.toBelow b_a.lt; replace b_b := b_b.below t9.toBelow b_b.lt; replace b_r := b_r.below t9.toBelow b_r.lt; replace hB := hB.trans (t9.toBelow.mono hB.size); clear t9 b9; have cb1 := b_b.cell 1 _ rfl))
  have hrd0 : Hid (∃ lo, Rd w9 (.slice (some ⟨w3.heap.size, 0, none⟩) 0 0) lo ∧ val lo = val la * val (lb.drop lb.length) ∧ lo.length ≤ la.length + 1 + 2 * (lb.length - lb.length)) := ⟨[], rdo1, by rw [List.drop_length]; rfl, by simp⟩
  clear rdo1 cb1
  go_loopw [5, 6] (fun ov i wr => ∃ k : Nat, k ≤ lb.length ∧ i = .int .i64 ((k : Int) - 1) ∧ Blk wr w.heap.size [.bool true, ba] 72 ∧ Blk wr w1.heap.size [.bool false, .slice (some ⟨gb, 0, none⟩) lb.length cb] 72 ∧ Blk wr w2.heap.size [.bool false, .slice none 0 0] 72 ∧ Below w.heap.size w wr ∧ Hid (∃ lo, Rd wr ov lo ∧ val lo = val la * val (lb.drop k) ∧ lo.length ≤ la.length + 1 + 2 * (lb.length - k))) (fun _ i _ => (intOf i + 1).toNat)
  case atStart => exact ⟨lb.length, Nat.le_refl _, rfl, b_a, b_b, b_r, hB, hrd0⟩
  case round =>
    clear b_a b_b b_r hB hrd0
    obtain ⟨k, hk, rfl, b_a, b_b, b_r, hB, hlo⟩ := hrel
    obtain ⟨lo, rdo, hvo, hno⟩ := hlo.out
    obtain ⟨go_, co_, spo, eo, -⟩ := id rdo
    subst eo
    clear hlo
    rcases k with _ | k
    · have hz2 : Hid (iv true lo = z) := by show _ = _; rw [← hz.out, iv, hvo, List.drop_zero]; try simp
      clear hvo
      go_wp2_with (first
        | ((with_reducible refine at_loadD 29 4 ?_); refine L_give (by rfl) (g_cell4 _ (w.heap.size) 0 ([.bool true, ba]) 72 (.bool true) rfl b_a (rfl) ?_))
        | ((with_reducible refine at_loadD 31 4 ?_); refine L_give (by rfl) (g_cell4 _ (w1.heap.size) 0 ([.bool false, .slice (some ⟨gb, 0, none⟩) lb.length cb]) 72 (.bool false) rfl b_b (rfl) ?_)))
      refine (bare_n true _ lo z wr rdo (by omega) hz2).mono ?_
      rintro e w31 ⟨_, rfl, ⟨s_n35, v_n35, rfl, r_n35⟩, t_⟩
      replace rdo := rdo.below t_
      replace b_a := b_a.below t_ b_a.lt
      replace b_b := b_b.below t_ b_b.lt
      replace b_r := b_r.below t_ b_r.lt
      replace hB := hB.trans (t_.mono hB.size)
      clear t_
      go_wp2_with (first
        | ((with_reducible refine at_storeX 4 72 ?_); refine L_store_all 72 _ _ (w2.heap.size) ([.bool s_n35, v_n35]) _ 72 rfl rfl b_r (szR) (rfl) (one_rc _ _ r_n35.sl) ?_; have b0_r := b_r; clear b_r; intro w32 t_ b_r; replace rdo := rdo.turn t_ b0_r (by decide); replace r_n35 := r_n35.turn t_ b0_r (by decide); replace b_a := t_.blk b_a (by omega); replace b_b := t_.blk b_b (by omega); replace hB := t_.below hB l_r; clear t_ b0_r))
      (try simp only [Exit.inBlock, Exit.then])
      exact bodyPost_ret (results_blk rfl _ _ _ rfl b_r Tryd.underlying72 rfl szR) rfl ⟨_, rfl, ⟨_, _, rfl, r_n35⟩, hB⟩
    · have hke : ((k + 1 : Nat) : Int) - 1 = (k : Int) := by omega
      rw [hke]
      clear hke
      obtain ⟨x, hx⟩ : ∃ x, atB lb k = x := ⟨_, rfl⟩
      have hstep := times_step (val la) (val (lb.drop (k + 1))) (val lo) x hvo
      rw [← hx, ← val_drop lb k, hx] at hstep
      replace hstep : Hid _ := hstep
      have hki : (k : Int) < (lb.length : Int) := by omega
      replace hx : Hid _ := hx
      clear hvo
      have hsz := hB.size
      cases x
      · skip
        go_wp2_with (first
          | ((with_reducible refine at_build 1 ?_); refine L_b1 _ false rfl ?_; intro w4 t4 b4)
          | ((with_reducible refine at_append ?_); refine L_app _ _ wr.heap.size _ _ [false] lo rfl rfl (own1 b4 (Nat.le_refl _)) (rdo.below t4.toBelow) (by simp; omega) t4.size ?_; intro v5 w5 o5 b5 n5; have hB5 : Below wr.heap.size wr w5 := t4.toBelow.trans b5; have q_a := b_a.below hB5 b_a.lt; have q_b := b_b.below hB5 b_b.lt; have q_r := b_r.below hB5 b_r.lt; have hBw := hB.trans (hB5.mono hsz); have hcb := bit_cell hBw rdb k (by omega); rw [hx.out] at hcb; have cb1 := q_b.cell 1 _ rfl; have ca1 := q_a.cell 1 _ rfl))
        have rd5 := o5.rd (o5.nonnil (by simp))
        clear hcb cb1 ca1
        skip
        refine ⟨⟨k, by omega, by go_num, q_a, q_b, q_r, hBw, [false] ++ lo, rd5, ?_, ?_⟩, by simp [intOf]⟩
        · rw [← hstep.out]; simp [val, bit]
        · simp; omega
      · skip
        go_wp2_with (first
          | ((with_reducible refine at_build 1 ?_); refine L_b1 _ false rfl ?_; intro w4 t4 b4)
          | ((with_reducible refine at_append ?_); refine L_app _ _ wr.heap.size _ _ [false] lo rfl rfl (own1 b4 (Nat.le_refl _)) (rdo.below t4.toBelow) (by simp; omega) t4.size ?_; intro v5 w5 o5 b5 n5; have hB5 : Below wr.heap.size wr w5 := t4.toBelow.trans b5; have q_a := b_a.below hB5 b_a.lt; have q_b := b_b.below hB5 b_b.lt; have q_r := b_r.below hB5 b_r.lt; have hBw := hB.trans (hB5.mono hsz); have hcb := bit_cell hBw rdb k (by omega); rw [hx.out] at hcb; have cb1 := q_b.cell 1 _ rfl; have ca1 := q_a.cell 1 _ rfl))
        have rd5 := o5.rd (o5.nonnil (by simp))
        refine (sum_any v5 ba ([false] ++ lo) la w5 rd5 (rda.below hBw) (by simp; omega) (by omega)).mono ?_
        rintro e w6 ⟨v6, rfl, ⟨l6, rd6, hv6, hn6⟩, t6⟩
        have z_a := q_a.below t6 q_a.lt
        have z_b := q_b.below t6 q_b.lt
        have z_r := q_r.below t6 q_r.lt
        have hBz := hBw.trans (t6.mono hBw.size)
        clear hcb cb1 ca1
        go_wp2_with fail
        refine ⟨⟨k, by omega, by go_num, z_a, z_b, z_r, hBz, l6, rd6, ?_, ?_⟩, by simp [intOf]⟩
        · rw [hv6, ← hstep.out]; simp [val, bit]
        · simp at hn6; omega

set_option maxRecDepth 10000 in
set_option maxHeartbeats 8000000 in
theorem rtimes_11 (ba : Value) (gb cb : Nat) (la lb : List Bool) (z : Int) (w : World) (rda : Rd w ba la) (rdb : Rd w (.slice (some ⟨gb, 0, none⟩) lb.length cb) lb) (na : la.length ≤ 200) (nb : lb.length ≤ 200) (hz : Hid ((if false then -((val la * val lb : Nat) : Int) else ((val la * val lb : Nat) : Int)) = z)) :
    Calls Tryd.prog 59 #[.agg #[.bool true, ba], .agg #[.bool true, .slice (some ⟨gb, 0, none⟩) lb.length cb]] w fun e w' => ∃ u, e = .returned u ∧ RN w' u z ∧ Below w.heap.size w w' := by
  go_enter Tryd.func59, Tryd.ntmps59
  go_wp2_with (first
    | ((with_reducible refine at_boxD 2 72 ?_); refine L_box 72 _ ([.bool true, ba]) rfl ?_; intro w1 t_ b_a; have l_a : w.heap.size ≤ w.heap.size := Nat.le_refl _; have hB : Below w.heap.size w w1 := t_.below (Below.refl _ _) (Nat.le_refl _); clear t_)
    | ((with_reducible refine at_boxD 3 72 ?_); refine L_box 72 _ ([.bool true, .slice (some ⟨gb, 0, none⟩) lb.length cb]) rfl ?_; intro w2 t_ b_b; have l_b : w.heap.size ≤ w1.heap.size := hB.size; have o_b := b_a.lt; replace b_a := t_.blk b_a (by omega); replace hB := t_.below hB l_b; clear t_)
    | ((with_reducible refine at_allocD 4 72 ?_); refine L_alloc 72 ([.bool false, .slice none 0 0]) zeroR ?_; intro w3 t_ b_r; have l_r : w.heap.size ≤ w2.heap.size := hB.size; have o_r := b_b.lt; replace b_a := t_.blk b_a (by omega); replace b_b := t_.blk b_b (by omega); replace hB := t_.below hB l_r; clear t_)
    | ((with_reducible refine at_build 0 ?_); refine L_b0 ?_; intro w9 t9 b9; have rdo1 := (own0 b9 (Nat.le_refl _)).rd (by simp); replace b_a := b_a.below t9.toBelow b_a.lt; replace b_b := b_b.below t9.toBelow b_b.lt; replace b_r := b_r.below t9.toBelow b_r.lt; replace hB := hB.trans (t9.toBelow.mono hB.size); clear t9 b9; have cb1 := b_b.cell 1 _ rfl))
  have hrd0 : Hid (∃ lo, Rd w9 (.slice (some ⟨w3.heap.size, 0, none⟩) 0 0) lo ∧ val lo = val la * val (lb.drop lb.length) ∧ lo.length ≤ la.length + 1 + 2 * (lb.length - lb.length)) := ⟨[], rdo1, by rw [List.drop_length]; rfl, by simp⟩
  clear rdo1 cb1
  go_loopw [5, 6] (fun ov i wr => ∃ k : Nat, k ≤ lb.length ∧ i = .int .i64 ((k : Int) - 1) ∧ Blk wr w.heap.size [.bool true, ba] 72 ∧ Blk wr w1.heap.size [.bool true, .slice (some ⟨gb, 0, none⟩) lb.length cb] 72 ∧ Blk wr w2.heap.size [.bool false, .slice none 0 0] 72 ∧ Below w.heap.size w wr ∧ Hid (∃ lo, Rd wr ov lo ∧ val lo = val la * val (lb.drop k) ∧ lo.length ≤ la.length + 1 + 2 * (lb.length - k))) (fun _ i _ => (intOf i + 1).toNat)
  case atStart => exact ⟨lb.length, Nat.le_refl _, rfl, b_a, b_b, b_r, hB, hrd0⟩
  case round =>
    clear b_a b_b b_r hB hrd0
    obtain ⟨k, hk, rfl, b_a, b_b, b_r, hB, hlo⟩ := hrel
    obtain ⟨lo, rdo, hvo, hno⟩ := hlo.out
    obtain ⟨go_, co_, spo, eo, -⟩ := id rdo
    subst eo
    clear hlo
    rcases k with _ | k
    · have hz2 : Hid (iv false lo = z) := by show _ = _; rw [← hz.out, iv, hvo, List.drop_zero]; try simp
      clear hvo
      go_wp2_with (first
        | ((with_reducible refine at_loadD 29 4 ?_); refine L_give (by rfl) (g_cell4 _ (w.heap.size) 0 ([.bool true, ba]) 72 (.bool true) rfl b_a (rfl) ?_))
        | ((with_reducible refine at_loadD 31 4 ?_); refine L_give (by rfl) (g_cell4 _ (w1.heap.size) 0 ([.bool true, .slice (some ⟨gb, 0, none⟩) lb.length cb]) 72 (.bool true) rfl b_b (rfl) ?_)))
      refine (bare_n false _ lo z wr rdo (by omega) hz2).mono ?_
      rintro e w31 ⟨_, rfl, ⟨s_n35, v_n35, rfl, r_n35⟩, t_⟩
      replace rdo := rdo.below t_
      replace b_a := b_a.below t_ b_a.lt
      replace b_b := b_b.below t_ b_b.lt
      replace b_r := b_r.below t_ b_r.lt
      replace hB := hB.trans (t_.mono hB.size)
      clear t_
      go_wp2_with (first
        | ((with_reducible refine at_storeX 4 72 ?_); refine L_store_all 72 _ _ (w2.heap.size) ([.bool s_n35, v_n35]) _ 72 rfl rfl b_r (szR) (rfl) (one_rc _ _ r_n35.sl) ?_; have b0_r := b_r; clear b_r; intro w32 t_ b_r; replace rdo := rdo.turn t_ b0_r (by decide); replace r_n35 := r_n35.turn t_ b0_r (by decide); replace b_a := t_.blk b_a (by omega); replace b_b := t_.blk b_b (by omega); replace hB := t_.below hB l_r; clear t_ b0_r))
      (try simp only [Exit.inBlock, Exit.then])
      exact bodyPost_ret (results_blk rfl _ _ _ rfl b_r Tryd.underlying72 rfl szR) rfl ⟨_, rfl, ⟨_, _, rfl, r_n35⟩, hB⟩
    · have hke : ((k + 1 : Nat) : Int) - 1 = (k : Int) := by omega
      rw [hke]
      clear hke
      obtain ⟨x, hx⟩ : ∃ x, atB lb k = x := ⟨_, rfl⟩
      have hstep := times_step (val la) (val (lb.drop (k + 1))) (val lo) x hvo
      rw [← hx, ← val_drop lb k, hx] at hstep
      replace hstep : Hid _ := hstep
      have hki : (k : Int) < (lb.length : Int) := by omega
      replace hx : Hid _ := hx
      clear hvo
      have hsz := hB.size
      cases x
      · skip
        go_wp2_with (first
          | ((with_reducible refine at_build 1 ?_); refine L_b1 _ false rfl ?_; intro w4 t4 b4)
          | ((with_reducible refine at_append ?_); refine L_app _ _ wr.heap.size _ _ [false] lo rfl rfl (own1 b4 (Nat.le_refl _)) (rdo.below t4.toBelow) (by simp; omega) t4.size ?_; intro v5 w5 o5 b5 n5; have hB5 : Below wr.heap.size wr w5 := t4.toBelow.trans b5; have q_a := b_a.below hB5 b_a.lt; have q_b := b_b.below hB5 b_b.lt; have q_r := b_r.below hB5 b_r.lt; have hBw := hB.trans (hB5.mono hsz); have hcb := bit_cell hBw rdb k (by omega); rw [hx.out] at hcb; have cb1 := q_b.cell 1 _ rfl; have ca1 := q_a.cell 1 _ rfl))
        have rd5 := o5.rd (o5.nonnil (by simp))
        clear hcb cb1 ca1
        skip
        refine ⟨⟨k, by omega, by go_num, q_a, q_b, q_r, hBw, [false] ++ lo, rd5, ?_, ?_⟩, by simp [intOf]⟩
        · rw [← hstep.out]; simp [val, bit]
        · simp; omega
      · skip
        go_wp2_with (first
          | ((with_reducible refine at_build 1 ?_); refine L_b1 _ false rfl ?_; intro w4 t4 b4)
          | ((with_reducible refine at_append ?_); refine L_app _ _ wr.heap.size _ _ [false] lo rfl rfl (own1 b4 (Nat.le_refl _)) (rdo.below t4.toBelow) (by simp; omega) t4.size ?_; intro v5 w5 o5 b5 n5; have hB5 : Below wr.heap.size wr w5 := t4.toBelow.trans b5; have q_a := b_a.below hB5 b_a.lt; have q_b := b_b.below hB5 b_b.lt; have q_r := b_r.below hB5 b_r.lt; have hBw := hB.trans (hB5.mono hsz); have hcb := bit_cell hBw rdb k (by omega); rw [hx.out] at hcb; have cb1 := q_b.cell 1 _ rfl; have ca1 := q_a.cell 1 _ rfl))
        have rd5 := o5.rd (o5.nonnil (by simp))
        refine (sum_any v5 ba ([false] ++ lo) la w5 rd5 (rda.below hBw) (by simp; omega) (by omega)).mono ?_
        rintro e w6 ⟨v6, rfl, ⟨l6, rd6, hv6, hn6⟩, t6⟩
        have z_a := q_a.below t6 q_a.lt
        have z_b := q_b.below t6 q_b.lt
        have z_r := q_r.below t6 q_r.lt
        have hBz := hBw.trans (t6.mono hBw.size)
        clear hcb cb1 ca1
        go_wp2_with fail
        refine ⟨⟨k, by omega, by go_num, z_a, z_b, z_r, hBz, l6, rd6, ?_, ?_⟩, by simp [intOf]⟩
        · rw [hv6, ← hstep.out]; simp [val, bit]
        · simp at hn6; omega

theorem rtimes_any (u v : Value) (y z p : Int) (w : World) (hu : RN w u y) (hv : RN w v z) (fy : Few y 200) (fz : Few z 200) (hp : Hid (y * z = p)) :
    Calls Tryd.prog 59 #[u, v] w fun e w' => ∃ u, e = .returned u ∧ RN w' u p ∧ Below w.heap.size w w' := by
  obtain ⟨sa, ba, rfl, ra⟩ := hu
  obtain ⟨sb, bb, rfl, rb⟩ := hv
  obtain ⟨la, da, -, ea, -, na⟩ := ra.len fy
  obtain ⟨lb, db, -, eb, -, nb⟩ := rb.len fz
  obtain ⟨gb, cb, sp, rfl, -⟩ := id db
  have hp' := hp.out
  cases sa <;> cases sb <;> simp only [iv, if_true, if_false, Bool.false_eq_true] at ea eb <;> rw [ea, eb] at hp'
  · exact rtimes_00 ba gb cb la lb p w da db na nb (by show _ = _; rw [← hp', if_neg (by decide), Int.natCast_mul])
  · exact rtimes_01 ba gb cb la lb p w da db na nb (by show _ = _; rw [← hp', if_pos rfl, Int.natCast_mul, Int.mul_neg])
  · exact rtimes_10 ba gb cb la lb p w da db na nb (by show _ = _; rw [← hp', if_pos rfl, Int.natCast_mul, Int.neg_mul])
  · exact rtimes_11 ba gb cb la lb p w da db na nb (by show _ = _; rw [← hp', if_neg (by decide), Int.natCast_mul, Int.neg_mul_neg])

end Go.Proofs.YtpenicjlpiechaaDoor.Wd
