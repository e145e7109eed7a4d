/- What the reference's Div answers. -/
import Derived.Test.YtpenicjlpiechaaDoorQRefTimes
import Derived.Test.YtpenicjlpiechaaDoorQOffO
namespace Go.Proofs.YtpenicjlpiechaaDoor.Wd
set_option maxRecDepth 10000
open Go Go.RowKit
set_option linter.unusedVariables false
theorem Own.blkn {w : World} {B g n : Nat} {l : List Bool} (h : Own w B (.slice (some ⟨g, 0, none⟩) n n) l) (hl : l.length = n) : Blk w g (bl l) 4 ∧ B ≤ g := by
  obtain ⟨g2, cap, sp, e, h1, h2, h3, h4, h5⟩ := h.blk (by simp)
  simp only [Value.slice.injEq, Option.some.injEq, Addr.mk.injEq, and_true] at e
  obtain ⟨rfl, e2, rfl⟩ := e
  have : sp = [] := List.eq_nil_of_length_eq_zero (by omega)
  subst this
  rw [List.append_nil] at h5
  exact ⟨h5, h1⟩
theorem _root_.Go.Proofs.YtpenicjlpiechaaDoor.Blk.ne {w : World} {a b : Nat} {cs ds : List Value} (h : Blk w a cs 72) (k : Blk w b ds 4) : a ≠ b := by
  rintro rfl
  unfold Blk at h k
  rw [h] at k
  simp at k
theorem bl_set (l : List Bool) (k : Nat) (x : Bool) : (bl l).set k (.bool x) = bl (l.set k x) := by simp [bl, List.map_set]
theorem rdn {w : World} {g n : Nat} {l : List Bool} (h : Blk w g (bl l) 4) (hl : l.length = n) (hn : n ≤ 1000) : Rd w (.slice (some ⟨g, 0, none⟩) n n) l := ⟨g, n, [], by rw [hl], by omega, by omega, by omega, by rw [List.append_nil]; exact h⟩
theorem val_set (l : List Bool) (k : Nat) (hk : k < l.length) : val ((l.set k true).drop k) = 1 + 2 * val (l.drop (k + 1)) := by
  rw [List.drop_eq_getElem_cons (by rw [List.length_set]; exact hk), val_cons, List.getElem_set_self, bit_true, List.drop_set_of_lt (by omega)]
theorem take_set (l : List Bool) (k : Nat) (x : Bool) : (l.set k x).take k = l.take k := by rw [List.take_set_of_le (by omega)]
/-- The step of the long division. -/
theorem div_step (A A' b q r x : Nat) (hA : A' = x + 2 * A) (h : A = b * q + r) : A' = b * (2 * q) + (x + 2 * r) := by
  rw [hA, h, Nat.mul_add, ← Nat.mul_assoc, ← Nat.mul_assoc, Nat.mul_comm 2 b]; omega
theorem div_step1 (A A' b q r x : Nat) (hA : A' = x + 2 * A) (h : A = b * q + r) (hr : b ≤ x + 2 * r) : A' = b * (1 + 2 * q) + (x + 2 * r - b) := by
  have := div_step A A' b q r x hA h
  rw [Nat.mul_add, Nat.mul_one]; omega
theorem results_blk2 {P : Program} {fn : Func} {p q : Tmp} {t : TypeId} (hf : fn.results = #[.cell p t, .cell q t]) {a : Act} {w : World} (b c : Nat) (cs ds : List Value) (d : TypeDesc) (hp : a.tmps.getD p undef = .pointer (some ⟨b, 0, none⟩)) (hq : a.tmps.getD q undef = .pointer (some ⟨c, 0, none⟩)) (hb : Blk w b cs t) (hc : Blk w c ds t)
    (hu : P.underlying t = some d) (hd : d.isRow = true) (hi : (P.info? t).map (·.size) = some cs.length) (hi2 : (P.info? t).map (·.size) = some ds.length) : (results fn a.tmps).run P w = .ok (.tuple #[.agg cs.toArray, .agg ds.toArray]) w := by
  have h := run_loadVar_mid (P := P) w b 0 t cs d (by simpa using hb.range 0 cs.length) hu hd hi
  have h2 := run_loadVar_mid (P := P) w c 0 t ds d (by simpa using hc.range 0 ds.length) hu hd hi2
  have hp' : a.tmps[p]?.getD undef = .pointer (some ⟨b, 0, none⟩) := by simpa using hp
  have hq' : a.tmps[q]?.getD undef = .pointer (some ⟨c, 0, none⟩) := by simpa using hq
  simp [results, hf, asAddr, hp', hq', h, h2]

def DivRes : Bool → Int → Int → Int → Int → Prop
  | false => fun y z Q M => Q = y / z ∧ M = y % z
  | true => fun y z Q M => (M = 0 → -Q = y / z ∧ M = y % z) ∧ (¬ M = 0 → -Q + -1 = y / z ∧ z + -M = y % z)
theorem div_end (s : Bool) (y z Q M : Int) (A b q r : Nat) (hy : y = if s then -(A : Int) else A) (hz : z = b) (hv : A = b * q + r) (hr : r < b) (hQ : (q : Int) = Q) (hM : (r : Int) = M) (fy : Few y 200) (fz : Few z 200) :
    Few Q 200 ∧ Few M 200 ∧ Few (-Q) 200 ∧ Few (-M) 200 ∧ DivRes s y z Q M := by
  have hq : q ≤ A := by rw [hv]; exact Nat.le_trans (Nat.le_mul_of_pos_left q (by omega)) (Nat.le_add_right _ _)
  have hA : A < 2 ^ 200 := by
    unfold Few at fy
    rw [hy] at fy
    cases s <;> simp at fy <;> exact fy
  have hb : b < 2 ^ 200 := by
    unfold Few at fz
    rw [hz] at fz
    simpa using fz
  have e : (A : Int) = (b : Int) * q + r := by exact_mod_cast hv
  refine ⟨by unfold Few; omega, by unfold Few; omega, by unfold Few; omega, by unfold Few; omega, ?_⟩
  have hb0 : (b : Int) ≠ 0 := by omega
  cases s
  · simp only [Bool.false_eq_true, if_false] at hy
    subst hy; subst hz; subst hQ; subst hM
    show (q : Int) = (A : Int) / b ∧ (r : Int) = (A : Int) % b
    rw [e, Int.add_comm]
    constructor
    · rw [Int.add_mul_ediv_left _ _ hb0, Int.ediv_eq_zero_of_lt (by omega) (by omega), Int.zero_add]
    · rw [Int.add_mul_emod_self_left, Int.emod_eq_of_lt (by omega) (by omega)]
  · simp only [if_true] at hy
    subst hy; subst hz; subst hQ; subst hM
    show ((r : Int) = 0 → -(q : Int) = -(A : Int) / b ∧ (r : Int) = -(A : Int) % b) ∧ (¬ (r : Int) = 0 → -(q : Int) + -1 = -(A : Int) / b ∧ (b : Int) + -(r : Int) = -(A : Int) % b)
    constructor
    · intro h0
      have : -(A : Int) = 0 + (b : Int) * (-(q : Int)) := by rw [e, Int.mul_neg]; omega
      rw [this]
      constructor
      · rw [Int.add_mul_ediv_left _ _ hb0, Int.ediv_eq_zero_of_lt (by omega) (by omega), Int.zero_add]
      · rw [Int.add_mul_emod_self_left, Int.emod_eq_of_lt (by omega) (by omega)]; omega
    · intro h0
      have : -(A : Int) = ((b : Int) + -(r : Int)) + (b : Int) * (-(q : Int) + -1) := by rw [e, Int.mul_add, Int.mul_neg]; omega
      rw [this]
      constructor
      · rw [Int.add_mul_ediv_left _ _ hb0, Int.ediv_eq_zero_of_lt (by omega) (by omega), Int.zero_add]
      · rw [Int.add_mul_emod_self_left, Int.emod_eq_of_lt (by omega) (by omega)]

set_option maxRecDepth 10000 in
set_option maxHeartbeats 16000000 in
theorem rdiv_0 (ga ca gb cb : Nat) (la lb : List Bool) (y z : Int) (w : World) (rda : Rd w (.slice (some ⟨ga, 0, none⟩) la.length ca) la) (rdb : Rd w (.slice (some ⟨gb, 0, none⟩) lb.length cb) lb) (rbf0 : RF w false (.slice (some ⟨gb, 0, none⟩) lb.length cb) z) (na : la.length ≤ 200) (nb : lb.length ≤ 200) (hlb : 0 < val lb) (hy : y = if false then -((val la : Nat) : Int) else ((val la : Nat) : Int)) (hzb : z = (val lb : Nat)) (fy : Few y 200) (fz : Few z 200) :
    Calls Tryd.prog 35 #[.agg #[.bool false, .slice (some ⟨ga, 0, none⟩) la.length ca], .agg #[.bool false, .slice (some ⟨gb, 0, none⟩) lb.length cb]] w fun e w' => ∃ u v, e = .returned (.tuple #[u, v]) ∧ RN w' u (y / z) ∧ RN w' v (y % z) ∧ Below w.heap.size w w' := by
  replace hy : Hid _ := hy
  replace hzb : Hid _ := hzb
  replace hlb : Hid _ := hlb
  go_enter Tryd.func35, Tryd.ntmps35
  go_wp2_with (first
    | ((with_reducible refine at_boxD 2 72 ?_); refine L_box 72 _ ([.bool false, .slice (some ⟨ga, 0, none⟩) la.length ca]) rfl ?_; intro w1 t_ b_a; have l_a : w.heap.size ≤ w.heap.size := Nat.le_refl _; have hB : Below w.heap.size w w1 := t_.below (Below.refl _ _) (Nat.le_refl _); clear t_)
    | ((with_reducible refine at_boxD 3 72 ?_); refine L_box 72 _ ([.bool false, .slice (some ⟨gb, 0, none⟩) lb.length cb]) rfl ?_; intro w2 t_ b_b; have l_b : w.heap.size ≤ w1.heap.size := hB.size; have o_b := b_a.lt; replace b_a := t_.blk b_a (by omega); replace hB := t_.below hB l_b; clear t_)
    | ((with_reducible refine at_allocD 4 72 ?_); refine L_alloc 72 ([.bool false, .slice none 0 0]) zeroR ?_; intro w3 t_ b_p; have l_p : w.heap.size ≤ w2.heap.size := hB.size; have o_p := b_b.lt; replace b_a := t_.blk b_a (by omega); replace b_b := t_.blk b_b (by omega); replace hB := t_.below hB l_p; clear t_)
    | ((with_reducible refine at_allocD 5 72 ?_); refine L_alloc 72 ([.bool false, .slice none 0 0]) zeroR ?_; intro w4 t_ b_r; have l_r : w.heap.size ≤ w3.heap.size := hB.size; have o_r := b_p.lt; replace b_a := t_.blk b_a (by omega); replace b_b := t_.blk b_b (by omega); replace b_p := t_.blk b_p (by omega); replace hB := t_.below hB l_r; clear t_; have ca1 := b_a.cell 1 _ rfl)
    | (at_make; refine L_give (by rfl) (g_make _ _ la.length w4.heap.size rfl rfl (by omega) (Nat.le_refl _) ?_); intro w5 o5 k5; have bq0 := (o5.blkn (by simp)).1; clear ca1; have l_gq : w.heap.size ≤ w4.heap.size := hB.size; replace b_a := b_a.below k5 b_a.lt; replace b_b := b_b.below k5 b_b.lt; replace b_p := b_p.below k5 b_p.lt; replace b_r := b_r.below k5 b_r.lt; replace hB := hB.trans (k5.mono hB.size))
    | ((with_reducible refine at_allocD 6 72 ?_); refine L_alloc 72 ([.bool false, .slice none 0 0]) zeroR ?_; intro w6 t_ b_q; have l_q : w.heap.size ≤ w5.heap.size := hB.size; have o_q := b_r.lt; replace b_a := t_.blk b_a (by omega); replace b_b := t_.blk b_b (by omega); replace b_p := t_.blk b_p (by omega); replace b_r := t_.blk b_r (by omega); replace hB := t_.below hB l_q; have bq1 := (t_.blk bq0 (by have := bq0.lt; omega)); clear t_)
    | ((with_reducible refine at_storeX 6 72 ?_); refine L_store_all 72 _ _ (w5.heap.size) ([.bool false, .slice (some ⟨w4.heap.size, 0, none⟩) la.length la.length]) _ 72 rfl rfl b_q (szR) (rfl) (one_rc _ _ ⟨_, _, _, rfl⟩) ?_; have b0_q := b_q; clear b_q; intro w7 t_ b_q; replace b_a := t_.blk b_a (by omega); replace b_b := t_.blk b_b (by omega); replace b_p := t_.blk b_p (by omega); replace b_r := t_.blk b_r (by omega); replace hB := t_.below hB l_q; have bq2 := t_.blk bq1 (b0_q.ne bq1).symm; have ca1 := b_a.cell 1 _ rfl; clear t_ b0_q bq0 bq1)
    | ((with_reducible refine at_build 0 ?_); refine L_b0 ?_; intro w8 t9 b9; have rdr1 := (own0 b9 (Nat.le_refl _)).rd (by simp); replace b_a := b_a.below t9.toBelow b_a.lt; replace b_b := b_b.below t9.toBelow b_b.lt; replace b_p := b_p.below t9.toBelow b_p.lt; replace b_r := b_r.below t9.toBelow b_r.lt; replace b_q := b_q.below t9.toBelow b_q.lt; have bq3 := bq2.below t9.toBelow bq2.lt; replace hB := hB.trans (t9.toBelow.mono hB.size); clear t9 b9 ca1; have ca1 := b_a.cell 1 _ rfl))
  have hl0 : Hid (∃ lr, Rd w8 (.slice (some ⟨w7.heap.size, 0, none⟩) 0 0) lr ∧ val (la.drop la.length) = val lb * val ((List.replicate la.length false).drop la.length) + val lr ∧ val lr < val lb ∧ (List.replicate la.length false).take la.length = List.replicate la.length false ∧ lr.length ≤ la.length - la.length) := ⟨[], rdr1, by simp [val], hlb.out, by simp, by simp⟩
  clear rdr1 ca1 bq2 o5
  go_loopw [7, 8] (fun rv i wr => ∃ (k : Nat) (lq : List Bool), k ≤ la.length ∧ i = .int .i64 ((k : Int) - 1) ∧ Blk wr w.heap.size ([.bool false, .slice (some ⟨ga, 0, none⟩) la.length ca]) 72 ∧ Blk wr w1.heap.size ([.bool false, .slice (some ⟨gb, 0, none⟩) lb.length cb]) 72 ∧ Blk wr w2.heap.size ([.bool false, .slice none 0 0]) 72 ∧ Blk wr w3.heap.size ([.bool false, .slice none 0 0]) 72 ∧ Blk wr w5.heap.size ([.bool false, .slice (some ⟨w4.heap.size, 0, none⟩) la.length la.length]) 72 ∧ Blk wr w4.heap.size (bl lq) 4 ∧ lq.length = la.length ∧ Below w.heap.size w wr ∧ Hid (∃ lr, Rd wr rv lr ∧ val (la.drop k) = val lb * val (lq.drop k) + val lr ∧ val lr < val lb ∧ lq.take k = List.replicate k false ∧ lr.length ≤ la.length - k)) (fun _ i _ => (intOf i + 1).toNat)
  case atStart => exact ⟨la.length, List.replicate la.length false, Nat.le_refl _, rfl, b_a, b_b, b_p, b_r, b_q, bq3, by simp, hB, hl0⟩
  case round =>
    clear b_a b_b b_p b_r b_q bq3 hB hl0
    obtain ⟨k, lq, hk, rfl, b_a, b_b, b_p, b_r, b_q, bq, hlq, hB, hlr⟩ := hrel
    obtain ⟨lr, rdr, hv, hlt, htk, hnr⟩ := hlr.out
    obtain ⟨gr_, cr_, spr, er, -⟩ := id rdr
    subst er
    clear hlr
    rcases k with _ | k
    · rw [List.drop_zero, List.drop_zero] at hv
      have rdq := rdn bq hlq (by omega)
      obtain ⟨Q, hQ⟩ : ∃ Q : Int, (val lq : Int) = Q := ⟨_, rfl⟩
      obtain ⟨M, hM⟩ : ∃ M : Int, (val lr : Int) = M := ⟨_, rfl⟩
      obtain ⟨fQ, fM, fQ1, fM1, hres⟩ := div_end false y z Q M (val la) (val lb) (val lq) (val lr) hy.out hzb.out hv hlt hQ hM fy fz
      have f1 : Few (-1) 200 := few128 _ (by omega)
      have hq1 : Hid (iv false lq = Q) := hQ
      have hm1 : Hid (iv false lr = M) := hM
      have rbf := rbf0.below hB
      replace hres : Hid _ := hres
      clear bq hv htk hQ hM
      go_wp2_with (first
        | ((with_reducible refine at_loadD 45 72 ?_); refine L_load_all 72 _ (w5.heap.size) ([.bool false, .slice (some ⟨w4.heap.size, 0, none⟩) la.length la.length]) 72 _ rfl b_q Tryd.underlying72 rfl (szR) ?_))
      refine (bare_n false _ lq Q wr rdq (by omega) hq1).mono ?_
      rintro e w31 ⟨_, rfl, ⟨s_n46, v_n46, rfl, r_n46⟩, t_⟩
      replace rdq := rdq.below t_
      replace rdr := rdr.below t_
      replace rbf := rbf.below t_
      replace b_a := b_a.below t_ b_a.lt
      replace b_b := b_b.below t_ b_b.lt
      replace b_p := b_p.below t_ b_p.lt
      replace b_r := b_r.below t_ b_r.lt
      replace b_q := b_q.below t_ b_q.lt
      replace hB := hB.trans (t_.mono hB.size)
      clear t_
      go_wp2_with (first
        | ((with_reducible refine at_storeX 6 72 ?_); refine L_store_all 72 _ _ (w5.heap.size) ([.bool s_n46, v_n46]) _ 72 rfl rfl b_q (szR) (rfl) (one_rc _ _ r_n46.sl) ?_; have b0_q := b_q; clear b_q; intro w32 t_ b_q; replace rdq := rdq.turn t_ b0_q (by decide); replace rdr := rdr.turn t_ b0_q (by decide); replace rbf := rbf.turn t_ b0_q (by decide); replace r_n46 := r_n46.turn t_ b0_q (by decide); replace b_a := t_.blk b_a (by omega); replace b_b := t_.blk b_b (by omega); replace b_p := t_.blk b_p (by omega); replace b_r := t_.blk b_r (by omega); replace hB := t_.below hB l_q; clear t_ b0_q))
      refine (bare_n false _ lr M w32 rdr (by omega) hm1).mono ?_
      rintro e w33 ⟨_, rfl, ⟨s_n49, v_n49, rfl, r_n49⟩, t_⟩
      replace rdq := rdq.below t_
      replace rdr := rdr.below t_
      replace rbf := rbf.below t_
      replace r_n46 := r_n46.below t_
      replace b_a := b_a.below t_ b_a.lt
      replace b_b := b_b.below t_ b_b.lt
      replace b_p := b_p.below t_ b_p.lt
      replace b_r := b_r.below t_ b_r.lt
      replace b_q := b_q.below t_ b_q.lt
      replace hB := hB.trans (t_.mono hB.size)
      clear t_
      go_wp2_with (first
        | ((with_reducible refine at_allocD 9 72 ?_); refine L_alloc 72 ([.bool false, .slice none 0 0]) zeroR ?_; intro w34 t_ b_m; have l_m : w.heap.size ≤ w33.heap.size := hB.size; have o_m := b_q.lt; replace rdq := rdq.below t_.toBelow; replace rdr := rdr.below t_.toBelow; replace rbf := rbf.below t_.toBelow; replace r_n46 := r_n46.below t_.toBelow; replace r_n49 := r_n49.below t_.toBelow; replace b_a := t_.blk b_a (by omega); replace b_b := t_.blk b_b (by omega); replace b_p := t_.blk b_p (by omega); replace b_r := t_.blk b_r (by omega); replace b_q := t_.blk b_q (by omega); replace hB := t_.below hB l_m; clear t_)
        | ((with_reducible refine at_storeX 9 72 ?_); refine L_store_all 72 _ _ (w33.heap.size) ([.bool s_n49, v_n49]) _ 72 rfl rfl b_m (szR) (rfl) (one_rc _ _ r_n49.sl) ?_; have b0_m := b_m; clear b_m; intro w35 t_ b_m; replace rdq := rdq.turn t_ b0_m (by decide); replace rdr := rdr.turn t_ b0_m (by decide); replace rbf := rbf.turn t_ b0_m (by decide); replace r_n46 := r_n46.turn t_ b0_m (by decide); replace r_n49 := r_n49.turn t_ b0_m (by decide); replace b_a := t_.blk b_a (by omega); replace b_b := t_.blk b_b (by omega); replace b_p := t_.blk b_p (by omega); replace b_r := t_.blk b_r (by omega); replace b_q := t_.blk b_q (by omega); replace hB := t_.below hB l_m; clear t_ b0_m)
        | ((with_reducible refine at_loadD 51 4 ?_); refine L_give (by rfl) (g_cell4 _ (w.heap.size) 0 ([.bool false, .slice (some ⟨ga, 0, none⟩) la.length ca]) 72 (.bool false) rfl b_a (rfl) ?_))
        | ((with_reducible refine stop_region 13 ?_); intro X1 hX1))
      refine hX1.out ?_
      clear hX1
      have hB0 := hB.size
      refine wp_region_pred (by kernel_rfl) (by kernel_rfl) [.eq (.agg #[.bool s_n46, v_n46]), .eq (.agg #[.bool s_n49, v_n49]), .at (w2.heap.size) (Q), .at (w3.heap.size) (M)] ([none, none, some (w2.heap.size), some (w3.heap.size)]) (fun wx => Below w.heap.size w35 wx ∧ Blk wx (w.heap.size) ([.bool false, .slice (some ⟨ga, 0, none⟩) la.length ca]) 72 ∧ Blk wx (w1.heap.size) ([.bool false, .slice (some ⟨gb, 0, none⟩) lb.length cb]) 72 ∧ Blk wx (w5.heap.size) ([.bool s_n46, v_n46]) 72 ∧ Blk wx (w33.heap.size) ([.bool s_n49, v_n49]) 72 ∧ (Rd wx (.slice (some ⟨w4.heap.size, 0, none⟩) la.length la.length) lq) ∧ (Rd wx (.slice (some ⟨gr_, 0, none⟩) lr.length cr_) lr) ∧ (RF wx false (.slice (some ⟨gb, 0, none⟩) lb.length cb) z) ∧ (RF wx s_n46 v_n46 (Q)) ∧ (RF wx s_n49 v_n49 (M)) ∧ (∃ x y, Blk wx (w2.heap.size) [x, y] 72) ∧ (∃ x y, Blk wx (w3.heap.size) [x, y] 72)) ?_ ?_ ?_ ?_
      · exact nobs2 _ _ 2 3 (b1 := w2.heap.size) (b2 := w3.heap.size) (z1 := (Q)) (z2 := (M)) ⟨rfl, rfl⟩ (by omega) rfl rfl (by decide)
      · exact ⟨(Below.refl _ _).drew, b_a.drew, b_b.drew, b_q.drew, b_m.drew, rdq.below (Below.refl _ _).drew, rdr.below (Below.refl _ _).drew, rbf.below (Below.refl _ _).drew, r_n46.below (Below.refl _ _).drew, r_n49.below (Below.refl _ _).drew, ⟨_, _, b_p.drew⟩, ⟨_, _, b_r.drew⟩⟩
      · simp only [full, Act.put, List.setIfInBounds_toArray, List.set_cons_succ, List.set_cons_zero, Nat.zero_add]
        intro i o ho v wx hC hall
        obtain ⟨hC1, q_a, q_b, q_q, q_m, g_rdq, g_rdr, g_rbf, g_r_n46, g_r_n49, ⟨x_2, y_2, p_2⟩, ⟨x_3, y_3, p_3⟩⟩ := id hC
        rcases i with _ | _ | _ | _ | i
        · obtain rfl := Option.some.inj ho
          refine gw rfl (g_load_all 72 _ (w5.heap.size) ([.bool s_n46, v_n46]) 72 _ rfl q_q Tryd.underlying72 rfl (szR) ?_)
          exact ⟨own_pd _ rfl rfl, hC, Below.refl _ _⟩
        · obtain rfl := Option.some.inj ho
          refine gw rfl (g_load_all 72 _ (w33.heap.size) ([.bool s_n49, v_n49]) 72 _ rfl q_m Tryd.underlying72 rfl (szR) ?_)
          exact ⟨own_pd _ rfl rfl, hC, Below.refl _ _⟩
        · obtain rfl := Option.some.inj ho
          have d0 : v 0 = .agg #[.bool s_n46, v_n46] := hall ⟨0, .data⟩ (by simp) rfl _ rfl
          refine gw rfl (g_store_all 72 _ _ (w2.heap.size) [.bool s_n46, v_n46] _ 72 rfl (show v 0 = _ from d0) p_2 szR rfl (one_rc _ _ g_r_n46.sl) (fun w' h1 h2 => ?_))
          exact ⟨own_pd _ rfl ⟨_, _, h2, g_r_n46.turn h1 p_2 (by decide)⟩, ⟨h1.below hC.1 l_p, h1.blk q_a (by omega), h1.blk q_b (by omega), h1.blk q_q (by omega), h1.blk q_m (by omega), g_rdq.turn h1 p_2 (by decide), g_rdr.turn h1 p_2 (by decide), g_rbf.turn h1 p_2 (by decide), g_r_n46.turn h1 p_2 (by decide), g_r_n49.turn h1 p_2 (by decide), ⟨_, _, h2⟩, ⟨x_3, y_3, h1.blk p_3 (by omega)⟩⟩, h1, _, p_2⟩
        · obtain rfl := Option.some.inj ho
          have d1 : v 1 = .agg #[.bool s_n49, v_n49] := hall ⟨1, .data⟩ (by simp) rfl _ rfl
          refine gw rfl (g_store_all 72 _ _ (w3.heap.size) [.bool s_n49, v_n49] _ 72 rfl (show v 1 = _ from d1) p_3 szR rfl (one_rc _ _ g_r_n49.sl) (fun w' h1 h2 => ?_))
          exact ⟨own_pd _ rfl ⟨_, _, h2, g_r_n49.turn h1 p_3 (by decide)⟩, ⟨h1.below hC.1 l_r, h1.blk q_a (by omega), h1.blk q_b (by omega), h1.blk q_q (by omega), h1.blk q_m (by omega), g_rdq.turn h1 p_3 (by decide), g_rdr.turn h1 p_3 (by decide), g_rbf.turn h1 p_3 (by decide), g_r_n46.turn h1 p_3 (by decide), g_r_n49.turn h1 p_3 (by decide), ⟨x_2, y_2, h1.blk p_2 (by omega)⟩, ⟨_, _, h2⟩⟩, h1, _, p_3⟩
        · simp at ho
      · simp only [full, Act.put, List.setIfInBounds_toArray, List.set_cons_succ, List.set_cons_zero, Nat.zero_add]
        intro v w36 hC hall
        have d0 : v 0 = .agg #[.bool s_n46, v_n46] := hall 0 _ (by decide) rfl
        (try rw [d0])
        clear d0
        have d1 : v 1 = .agg #[.bool s_n49, v_n49] := hall 1 _ (by decide) rfl
        (try rw [d1])
        clear d1
        obtain ⟨s_p1, v_p1, h_p, r_p1⟩ := (hall 2 _ (by decide) rfl : RA w36 (w2.heap.size) (Q))
        obtain ⟨s_r1, v_r1, h_r, r_r1⟩ := (hall 3 _ (by decide) rfl : RA w36 (w3.heap.size) (M))
        clear hall
        obtain ⟨hC, h_a, h_b, h_q, h_m, g_rdq, g_rdr, g_rbf, g_r_n46, g_r_n49, -, -⟩ := hC
        replace rdq := g_rdq
        replace rdr := g_rdr
        replace rbf := g_rbf
        replace r_n46 := g_r_n46
        replace r_n49 := g_r_n49
        replace b_a := h_a
        replace b_b := h_b
        replace b_q := h_q
        replace b_m := h_m
        replace b_p := h_p
        replace b_r := h_r
        replace hB := hB.trans hC
        clear hC hB0
        go_wp2_with fail
        obtain ⟨e1, e2⟩ := hres.out
        (try simp only [Exit.inBlock, Exit.then])
        exact bodyPost_ret (results_blk2 rfl _ _ _ _ _ rfl rfl b_p b_r Tryd.underlying72 rfl szR szR) rfl ⟨_, _, rfl, ⟨_, _, rfl, e1 ▸ r_p1⟩, ⟨_, _, rfl, e2 ▸ r_r1⟩, hB⟩
    · have hke : ((k + 1 : Nat) : Int) - 1 = (k : Int) := by omega
      rw [hke]
      clear hke
      obtain ⟨x, hx⟩ : ∃ x, atB la k = x := ⟨_, rfl⟩
      have hd := val_drop la k
      rw [hx] at hd
      have hki : (k : Int) < (la.length : Int) := by omega
      have hsz := hB.size
      have hab := bit_cell hB rda k (by omega)
      rw [hx] at hab
      have ca1 := b_a.cell 1 _ rfl
      have hqk : atB lq k = false := by
        have h := congrArg (fun l => atB l k) htk
        simp only [atB] at h
        rw [List.getD_eq_getElem?_getD, List.getElem?_take, if_pos (by omega)] at h
        simpa [atB, List.getD_eq_getElem?_getD] using h
      have htk2 : lq.take k = List.replicate k false := by
        have h := congrArg (List.take k) htk
        rwa [List.take_take, Nat.min_eq_left (by omega), List.take_replicate, Nat.min_eq_left (by omega)] at h
      have hdq := val_drop lq k
      rw [hqk, bit_false, Nat.zero_add] at hdq
      have s0 := div_step _ _ _ _ _ _ hd hv
      have s1 := div_step1 _ _ _ _ _ _ hd hv
      have hbx := bit_le x
      obtain ⟨Rg, hRg⟩ : ∃ Rg, cmpN (val ([x] ++ lr)) (val lb) = Rg := ⟨_, rfl⟩
      have hvx : val ([x] ++ lr) = bit x + 2 * val lr := rfl
      replace hRg : Hid _ := hRg
      replace s0 : Hid _ := s0
      replace s1 : Hid _ := s1
      replace hdq : Hid _ := hdq
      replace htk2 : Hid _ := htk2
      replace hvx : Hid _ := hvx
      clear hv htk hqk hd
      replace hx : Hid _ := hx
      have hgt : (val lb ≤ val ([x] ++ lr) ∧ 0 ≤ Rg) ∨ (val ([x] ++ lr) < val lb ∧ ¬ 0 ≤ Rg) := by
        have h := hRg.out
        unfold cmpN at h
        by_cases c1 : val ([x] ++ lr) < val lb
        · rw [if_pos c1] at h; exact .inr ⟨c1, by omega⟩
        · refine .inl ⟨by omega, ?_⟩
          rw [if_neg c1] at h; split at h <;> omega
      replace hlt : Hid _ := hlt
      replace hbx : Hid _ := hbx
      rcases hgt with ⟨hge, hR0⟩ | ⟨hge, hR0⟩
      · replace hge : Hid _ := hge
        go_wp2_with (first
          | ((with_reducible refine at_build 1 ?_); refine L_b1 _ x rfl ?_; intro w24 t4 b4)
          | ((with_reducible refine at_append ?_); refine L_app _ _ wr.heap.size _ _ [x] lr rfl rfl (own1 b4 (Nat.le_refl _)) (rdr.below t4.toBelow) (by simp; omega) t4.size ?_; intro v5 w25 o5 b5 n5; have hB5 : Below wr.heap.size wr w25 := t4.toBelow.trans b5; have hBw := hB.trans (hB5.mono hsz); have q_a := b_a.below hB5 b_a.lt; have q_b := b_b.below hB5 b_b.lt; have q_p := b_p.below hB5 b_p.lt; have q_r := b_r.below hB5 b_r.lt; have q_q := b_q.below hB5 b_q.lt; have bq5 := bq.below hB5 bq.lt; have cb1 := q_b.cell 1 _ rfl))
        have rd5 := o5.rd (o5.nonnil (by simp))
        have hsz5 := hB5.size
        refine (greater_any v5 _ ([x] ++ lr) lb w25 rd5 (rdb.below hBw) (by simp; omega) (by omega) Rg hRg).mono ?_
        rintro e w8 ⟨rfl, hW_⟩
        rw [hW_]
        clear hW_ w8 ca1 hab
        go_wp2_with fail
        refine (off_own v5 _ ([x] ++ lr) lb w25 rd5 (rdb.below hBw) (by simp; omega) (by omega) hge.out).mono ?_
        rintro e w26 ⟨v6, rfl, ⟨l6, o6, n6, hv6, hn6⟩, t6⟩
        have z_a := q_a.below t6 q_a.lt
        have z_b := q_b.below t6 q_b.lt
        have z_p := q_p.below t6 q_p.lt
        have z_r := q_r.below t6 q_r.lt
        have z_q := q_q.below t6 q_q.lt
        have bq6 := bq5.below t6 bq5.lt
        have hBz := hBw.trans (t6.mono hBw.size)
        have cq1 := z_q.cell 1 _ rfl
        have cqk := bq6.cell k _ (bl_at lq k (by omega))
        have cqf := bq6.frozen k
        have hgq := bq5.lt
        clear cb1
        go_wp2_with fail
        obtain ⟨t7, b7⟩ := turn_setCell w26 _ k (.bool true) _ 4 bq6
        rw [bl_set] at b7
        refine ⟨⟨k, lq.set k true, by omega, by go_num, t7.blk z_a (z_a.ne bq6), t7.blk z_b (z_b.ne bq6), t7.blk z_p (z_p.ne bq6), t7.blk z_r (z_r.ne bq6), t7.blk z_q (z_q.ne bq6), b7, by rw [List.length_set]; exact hlq, t7.below hBz l_gq, l6, (o6.turn t7 hgq).rd n6, ?_, ?_, ?_, ?_⟩, by simp [intOf]⟩
        · rw [hv6, val_set lq k (by omega), hvx.out]; exact s1.out (by have := hge.out; rw [hvx.out] at this; exact this)
        · rw [hv6]; have h1 := hge.out; have h2 := hlt.out; have h3 := hbx.out; rw [hvx.out] at h1 ⊢; omega
        · rw [take_set]; exact htk2.out
        · rw [List.length_append] at hn6; simp at hn6; omega
      · replace hge : Hid _ := hge
        go_wp2_with (first
          | ((with_reducible refine at_build 1 ?_); refine L_b1 _ x rfl ?_; intro w24 t4 b4)
          | ((with_reducible refine at_append ?_); refine L_app _ _ wr.heap.size _ _ [x] lr rfl rfl (own1 b4 (Nat.le_refl _)) (rdr.below t4.toBelow) (by simp; omega) t4.size ?_; intro v5 w25 o5 b5 n5; have hB5 : Below wr.heap.size wr w25 := t4.toBelow.trans b5; have hBw := hB.trans (hB5.mono hsz); have q_a := b_a.below hB5 b_a.lt; have q_b := b_b.below hB5 b_b.lt; have q_p := b_p.below hB5 b_p.lt; have q_r := b_r.below hB5 b_r.lt; have q_q := b_q.below hB5 b_q.lt; have bq5 := bq.below hB5 bq.lt; have cb1 := q_b.cell 1 _ rfl))
        have rd5 := o5.rd (o5.nonnil (by simp))
        have hsz5 := hB5.size
        refine (greater_any v5 _ ([x] ++ lr) lb w25 rd5 (rdb.below hBw) (by simp; omega) (by omega) Rg hRg).mono ?_
        rintro e w8 ⟨rfl, hW_⟩
        rw [hW_]
        clear hW_ w8 ca1 hab
        go_wp2_with fail
        refine ⟨⟨k, lq, by omega, by go_num, q_a, q_b, q_p, q_r, q_q, bq5, hlq, hBw, [x] ++ lr, rd5, ?_, hge.out, htk2.out, ?_⟩, by simp [intOf]⟩
        · rw [s0.out, hdq.out, hvx.out]
        · simp; omega

set_option maxRecDepth 10000 in
set_option maxHeartbeats 16000000 in
theorem rdiv_1 (ga ca gb cb : Nat) (la lb : List Bool) (y z : Int) (w : World) (rda : Rd w (.slice (some ⟨ga, 0, none⟩) la.length ca) la) (rdb : Rd w (.slice (some ⟨gb, 0, none⟩) lb.length cb) lb) (rbf0 : RF w false (.slice (some ⟨gb, 0, none⟩) lb.length cb) z) (na : la.length ≤ 200) (nb : lb.length ≤ 200) (hlb : 0 < val lb) (hy : y = if true then -((val la : Nat) : Int) else ((val la : Nat) : Int)) (hzb : z = (val lb : Nat)) (fy : Few y 200) (fz : Few z 200) :
    Calls Tryd.prog 35 #[.agg #[.bool true, .slice (some ⟨ga, 0, none⟩) la.length ca], .agg #[.bool false, .slice (some ⟨gb, 0, none⟩) lb.length cb]] w fun e w' => ∃ u v, e = .returned (.tuple #[u, v]) ∧ RN w' u (y / z) ∧ RN w' v (y % z) ∧ Below w.heap.size w w' := by
  replace hy : Hid _ := hy
  replace hzb : Hid _ := hzb
  replace hlb : Hid _ := hlb
  go_enter Tryd.func35, Tryd.ntmps35
  go_wp2_with (first
    | ((with_reducible refine at_boxD 2 72 ?_); refine L_box 72 _ ([.bool true, .slice (some ⟨ga, 0, none⟩) la.length ca]) rfl ?_; intro w1 t_ b_a; have l_a : w.heap.size ≤ w.heap.size := Nat.le_refl _; have hB : Below w.heap.size w w1 := t_.below (Below.refl _ _) (Nat.le_refl _); clear t_)
    | ((with_reducible refine at_boxD 3 72 ?_); refine L_box 72 _ ([.bool false, .slice (some ⟨gb, 0, none⟩) lb.length cb]) rfl ?_; intro w2 t_ b_b; have l_b : w.heap.size ≤ w1.heap.size := hB.size; have o_b := b_a.lt; replace b_a := t_.blk b_a (by omega); replace hB := t_.below hB l_b; clear t_)
    | ((with_reducible refine at_allocD 4 72 ?_); refine L_alloc 72 ([.bool false, .slice none 0 0]) zeroR ?_; intro w3 t_ b_p; have l_p : w.heap.size ≤ w2.heap.size := hB.size; have o_p := b_b.lt; replace b_a := t_.blk b_a (by omega); replace b_b := t_.blk b_b (by omega); replace hB := t_.below hB l_p; clear t_)
    | ((with_reducible refine at_allocD 5 72 ?_); refine L_alloc 72 ([.bool false, .slice none 0 0]) zeroR ?_; intro w4 t_ b_r; have l_r : w.heap.size ≤ w3.heap.size := hB.size; have o_r := b_p.lt; replace b_a := t_.blk b_a (by omega); replace b_b := t_.blk b_b (by omega); replace b_p := t_.blk b_p (by omega); replace hB := t_.below hB l_r; clear t_; have ca1 := b_a.cell 1 _ rfl)
    | (at_make; refine L_give (by rfl) (g_make _ _ la.length w4.heap.size rfl rfl (by omega) (Nat.le_refl _) ?_); intro w5 o5 k5; have bq0 := (o5.blkn (by simp)).1; clear ca1; have l_gq : w.heap.size ≤ w4.heap.size := hB.size; replace b_a := b_a.below k5 b_a.lt; replace b_b := b_b.below k5 b_b.lt; replace b_p := b_p.below k5 b_p.lt; replace b_r := b_r.below k5 b_r.lt; replace hB := hB.trans (k5.mono hB.size))
    | ((with_reducible refine at_allocD 6 72 ?_); refine L_alloc 72 ([.bool false, .slice none 0 0]) zeroR ?_; intro w6 t_ b_q; have l_q : w.heap.size ≤ w5.heap.size := hB.size; have o_q := b_r.lt; replace b_a := t_.blk b_a (by omega); replace b_b := t_.blk b_b (by omega); replace b_p := t_.blk b_p (by omega); replace b_r := t_.blk b_r (by omega); replace hB := t_.below hB l_q; have bq1 := (t_.blk bq0 (by have := bq0.lt; omega)); clear t_)
    | ((with_reducible refine at_storeX 6 72 ?_); refine L_store_all 72 _ _ (w5.heap.size) ([.bool false, .slice (some ⟨w4.heap.size, 0, none⟩) la.length la.length]) _ 72 rfl rfl b_q (szR) (rfl) (one_rc _ _ ⟨_, _, _, rfl⟩) ?_; have b0_q := b_q; clear b_q; intro w7 t_ b_q; replace b_a := t_.blk b_a (by omega); replace b_b := t_.blk b_b (by omega); replace b_p := t_.blk b_p (by omega); replace b_r := t_.blk b_r (by omega); replace hB := t_.below hB l_q; have bq2 := t_.blk bq1 (b0_q.ne bq1).symm; have ca1 := b_a.cell 1 _ rfl; clear t_ b0_q bq0 bq1)
    | ((with_reducible refine at_build 0 ?_); refine L_b0 ?_; intro w8 t9 b9; have rdr1 := (own0 b9 (Nat.le_refl _)).rd (by simp); replace b_a := b_a.below t9.toBelow b_a.lt; replace b_b := b_b.below t9.toBelow b_b.lt; replace b_p := b_p.below t9.toBelow b_p.lt; replace b_r := b_r.below t9.toBelow b_r.lt; replace b_q := b_q.below t9.toBelow b_q.lt; have bq3 := bq2.below t9.toBelow bq2.lt; replace hB := hB.trans (t9.toBelow.mono hB.size); clear t9 b9 ca1; have ca1 := b_a.cell 1 _ rfl))
  have hl0 : Hid (∃ lr, Rd w8 (.slice (some ⟨w7.heap.size, 0, none⟩) 0 0) lr ∧ val (la.drop la.length) = val lb * val ((List.replicate la.length false).drop la.length) + val lr ∧ val lr < val lb ∧ (List.replicate la.length false).take la.length = List.replicate la.length false ∧ lr.length ≤ la.length - la.length) := ⟨[], rdr1, by simp [val], hlb.out, by simp, by simp⟩
  clear rdr1 ca1 bq2 o5
  go_loopw [7, 8] (fun rv i wr => ∃ (k : Nat) (lq : List Bool), k ≤ la.length ∧ i = .int .i64 ((k : Int) - 1) ∧ Blk wr w.heap.size ([.bool true, .slice (some ⟨ga, 0, none⟩) la.length ca]) 72 ∧ Blk wr w1.heap.size ([.bool false, .slice (some ⟨gb, 0, none⟩) lb.length cb]) 72 ∧ Blk wr w2.heap.size ([.bool false, .slice none 0 0]) 72 ∧ Blk wr w3.heap.size ([.bool false, .slice none 0 0]) 72 ∧ Blk wr w5.heap.size ([.bool false, .slice (some ⟨w4.heap.size, 0, none⟩) la.length la.length]) 72 ∧ Blk wr w4.heap.size (bl lq) 4 ∧ lq.length = la.length ∧ Below w.heap.size w wr ∧ Hid (∃ lr, Rd wr rv lr ∧ val (la.drop k) = val lb * val (lq.drop k) + val lr ∧ val lr < val lb ∧ lq.take k = List.replicate k false ∧ lr.length ≤ la.length - k)) (fun _ i _ => (intOf i + 1).toNat)
  case atStart => exact ⟨la.length, List.replicate la.length false, Nat.le_refl _, rfl, b_a, b_b, b_p, b_r, b_q, bq3, by simp, hB, hl0⟩
  case round =>
    clear b_a b_b b_p b_r b_q bq3 hB hl0
    obtain ⟨k, lq, hk, rfl, b_a, b_b, b_p, b_r, b_q, bq, hlq, hB, hlr⟩ := hrel
    obtain ⟨lr, rdr, hv, hlt, htk, hnr⟩ := hlr.out
    obtain ⟨gr_, cr_, spr, er, -⟩ := id rdr
    subst er
    clear hlr
    rcases k with _ | k
    · rw [List.drop_zero, List.drop_zero] at hv
      have rdq := rdn bq hlq (by omega)
      obtain ⟨Q, hQ⟩ : ∃ Q : Int, (val lq : Int) = Q := ⟨_, rfl⟩
      obtain ⟨M, hM⟩ : ∃ M : Int, (val lr : Int) = M := ⟨_, rfl⟩
      obtain ⟨fQ, fM, fQ1, fM1, hres⟩ := div_end true y z Q M (val la) (val lb) (val lq) (val lr) hy.out hzb.out hv hlt hQ hM fy fz
      have f1 : Few (-1) 200 := few128 _ (by omega)
      have hq1 : Hid (iv false lq = Q) := hQ
      have hm1 : Hid (iv false lr = M) := hM
      have rbf := rbf0.below hB
      replace hres : Hid _ := hres
      clear bq hv htk hQ hM
      go_wp2_with (first
        | ((with_reducible refine at_loadD 45 72 ?_); refine L_load_all 72 _ (w5.heap.size) ([.bool false, .slice (some ⟨w4.heap.size, 0, none⟩) la.length la.length]) 72 _ rfl b_q Tryd.underlying72 rfl (szR) ?_))
      refine (bare_n false _ lq Q wr rdq (by omega) hq1).mono ?_
      rintro e w31 ⟨_, rfl, ⟨s_n46, v_n46, rfl, r_n46⟩, t_⟩
      replace rdq := rdq.below t_
      replace rdr := rdr.below t_
      replace rbf := rbf.below t_
      replace b_a := b_a.below t_ b_a.lt
      replace b_b := b_b.below t_ b_b.lt
      replace b_p := b_p.below t_ b_p.lt
      replace b_r := b_r.below t_ b_r.lt
      replace b_q := b_q.below t_ b_q.lt
      replace hB := hB.trans (t_.mono hB.size)
      clear t_
      go_wp2_with (first
        | ((with_reducible refine at_storeX 6 72 ?_); refine L_store_all 72 _ _ (w5.heap.size) ([.bool s_n46, v_n46]) _ 72 rfl rfl b_q (szR) (rfl) (one_rc _ _ r_n46.sl) ?_; have b0_q := b_q; clear b_q; intro w32 t_ b_q; replace rdq := rdq.turn t_ b0_q (by decide); replace rdr := rdr.turn t_ b0_q (by decide); replace rbf := rbf.turn t_ b0_q (by decide); replace r_n46 := r_n46.turn t_ b0_q (by decide); replace b_a := t_.blk b_a (by omega); replace b_b := t_.blk b_b (by omega); replace b_p := t_.blk b_p (by omega); replace b_r := t_.blk b_r (by omega); replace hB := t_.below hB l_q; clear t_ b0_q))
      refine (bare_n false _ lr M w32 rdr (by omega) hm1).mono ?_
      rintro e w33 ⟨_, rfl, ⟨s_n49, v_n49, rfl, r_n49⟩, t_⟩
      replace rdq := rdq.below t_
      replace rdr := rdr.below t_
      replace rbf := rbf.below t_
      replace r_n46 := r_n46.below t_
      replace b_a := b_a.below t_ b_a.lt
      replace b_b := b_b.below t_ b_b.lt
      replace b_p := b_p.below t_ b_p.lt
      replace b_r := b_r.below t_ b_r.lt
      replace b_q := b_q.below t_ b_q.lt
      replace hB := hB.trans (t_.mono hB.size)
      clear t_
      go_wp2_with (first
        | ((with_reducible refine at_allocD 9 72 ?_); refine L_alloc 72 ([.bool false, .slice none 0 0]) zeroR ?_; intro w34 t_ b_m; have l_m : w.heap.size ≤ w33.heap.size := hB.size; have o_m := b_q.lt; replace rdq := rdq.below t_.toBelow; replace rdr := rdr.below t_.toBelow; replace rbf := rbf.below t_.toBelow; replace r_n46 := r_n46.below t_.toBelow; replace r_n49 := r_n49.below t_.toBelow; replace b_a := t_.blk b_a (by omega); replace b_b := t_.blk b_b (by omega); replace b_p := t_.blk b_p (by omega); replace b_r := t_.blk b_r (by omega); replace b_q := t_.blk b_q (by omega); replace hB := t_.below hB l_m; clear t_)
        | ((with_reducible refine at_storeX 9 72 ?_); refine L_store_all 72 _ _ (w33.heap.size) ([.bool s_n49, v_n49]) _ 72 rfl rfl b_m (szR) (rfl) (one_rc _ _ r_n49.sl) ?_; have b0_m := b_m; clear b_m; intro w35 t_ b_m; replace rdq := rdq.turn t_ b0_m (by decide); replace rdr := rdr.turn t_ b0_m (by decide); replace rbf := rbf.turn t_ b0_m (by decide); replace r_n46 := r_n46.turn t_ b0_m (by decide); replace r_n49 := r_n49.turn t_ b0_m (by decide); replace b_a := t_.blk b_a (by omega); replace b_b := t_.blk b_b (by omega); replace b_p := t_.blk b_p (by omega); replace b_r := t_.blk b_r (by omega); replace b_q := t_.blk b_q (by omega); replace hB := t_.below hB l_m; clear t_ b0_m)
        | ((with_reducible refine stop_list 51 ?_); intro X0 hX0))
      refine hX0.out ?_
      clear hX0
      obtain ⟨l9, rd9, hc9, hv9⟩ := r_n49.list
      obtain ⟨g9, c9, sp9, e9, -⟩ := id rd9
      subst e9
      clear rd9
      by_cases hM0 : M = 0
      · obtain ⟨hr1_, hr2_⟩ := hres.out
        obtain ⟨e1, e2⟩ := hr1_ hM0
        clear hr1_ hr2_
        have hl9 : l9.length = 0 := by rw [hc9.zero (by rw [hv9, hM0]; rfl)]; rfl
        replace hM0 : Hid _ := hM0
        replace e1 : Hid _ := e1
        replace e2 : Hid _ := e2
        clear hc9 hv9
        go_wp2_with (first
          | ((with_reducible refine at_loadD 51 4 ?_); refine L_give (by rfl) (g_cell4 _ (w.heap.size) 0 ([.bool true, .slice (some ⟨ga, 0, none⟩) la.length ca]) 72 (.bool true) rfl b_a (rfl) ?_))
          | ((with_reducible refine at_loadD 56 70 ?_); refine L_give (by rfl) (g_cell70 _ (w33.heap.size) 1 ([.bool s_n49, .slice (some ⟨g9, 0, none⟩) l9.length c9]) 72 (.slice (some ⟨g9, 0, none⟩) l9.length c9) rfl b_m (rfl) ?_))
          | ((with_reducible refine at_binD 58 ?_); refine L_give (by rfl) (g_ieq 3 _ _ .i64 _ _ true rfl rfl (decide_eq_true (by omega)) ?_))
          | ((with_reducible refine stop_region 15 ?_); intro X1 hX1))
        refine hX1.out ?_
        clear hX1
        have hB0 := hB.size
        refine wp_region_pred (by kernel_rfl) (by kernel_rfl) [.eq (.agg #[.bool s_n46, v_n46]), .rn (-Q), .eq (.agg #[.bool s_n49, .slice (some ⟨g9, 0, none⟩) l9.length c9]), .at (w2.heap.size) (-Q), .at (w3.heap.size) (M)] ([none, none, none, some (w2.heap.size), some (w3.heap.size)]) (fun wx => Below w.heap.size w35 wx ∧ Blk wx (w.heap.size) ([.bool true, .slice (some ⟨ga, 0, none⟩) la.length ca]) 72 ∧ Blk wx (w1.heap.size) ([.bool false, .slice (some ⟨gb, 0, none⟩) lb.length cb]) 72 ∧ Blk wx (w5.heap.size) ([.bool s_n46, v_n46]) 72 ∧ Blk wx (w33.heap.size) ([.bool s_n49, .slice (some ⟨g9, 0, none⟩) l9.length c9]) 72 ∧ (Rd wx (.slice (some ⟨w4.heap.size, 0, none⟩) la.length la.length) lq) ∧ (Rd wx (.slice (some ⟨gr_, 0, none⟩) lr.length cr_) lr) ∧ (RF wx false (.slice (some ⟨gb, 0, none⟩) lb.length cb) z) ∧ (RF wx s_n46 v_n46 (Q)) ∧ (RF wx s_n49 (.slice (some ⟨g9, 0, none⟩) l9.length c9) (M)) ∧ (∃ x y, Blk wx (w2.heap.size) [x, y] 72) ∧ (∃ x y, Blk wx (w3.heap.size) [x, y] 72)) ?_ ?_ ?_ ?_
        · exact nobs2 _ _ 3 4 (b1 := w2.heap.size) (b2 := w3.heap.size) (z1 := (-Q)) (z2 := (M)) ⟨rfl, rfl⟩ (by omega) rfl rfl (by decide)
        · exact ⟨(Below.refl _ _).drew, b_a.drew, b_b.drew, b_q.drew, b_m.drew, rdq.below (Below.refl _ _).drew, rdr.below (Below.refl _ _).drew, rbf.below (Below.refl _ _).drew, r_n46.below (Below.refl _ _).drew, r_n49.below (Below.refl _ _).drew, ⟨_, _, b_p.drew⟩, ⟨_, _, b_r.drew⟩⟩
        · simp only [full, Act.put, List.setIfInBounds_toArray, List.set_cons_succ, List.set_cons_zero, Nat.zero_add, Nat.reduceAdd]
          intro i o ho v wx hC hall
          obtain ⟨hC1, q_a, q_b, q_q, q_m, g_rdq, g_rdr, g_rbf, g_r_n46, g_r_n49, ⟨x_3, y_3, p_3⟩, ⟨x_4, y_4, p_4⟩⟩ := id hC
          rcases i with _ | _ | _ | _ | _ | i
          · obtain rfl := Option.some.inj ho
            refine gw rfl (g_load_all 72 _ (w5.heap.size) ([.bool s_n46, v_n46]) 72 _ rfl q_q Tryd.underlying72 rfl (szR) ?_)
            exact ⟨own_pd _ rfl rfl, hC, Below.refl _ _⟩
          · obtain rfl := Option.some.inj ho
            have d0 : v 0 = .agg #[.bool s_n46, v_n46] := hall ⟨0, .data⟩ (by simp) rfl _ rfl
            refine gw rfl (g_call 34 _ _ [.agg #[.bool s_n46, v_n46]] (kf34 _ _) (by show ([v 0] : List Value) = _; rw [d0]; (try rfl)) ((less_any _ Q wx ⟨_, _, rfl, g_r_n46⟩ fQ).mono ?_))
            rintro e w' ⟨u_, rfl, hp, hb⟩
            exact ⟨_, rfl, own_pd _ rfl hp, ⟨hC.1.trans (hb.mono (Nat.le_trans hB0 hC.1.size)), q_a.below hb q_a.lt, q_b.below hb q_b.lt, q_q.below hb q_q.lt, q_m.below hb q_m.lt, g_rdq.below hb, g_rdr.below hb, g_rbf.below hb, g_r_n46.below hb, g_r_n49.below hb, ⟨x_3, y_3, p_3.below hb p_3.lt⟩, ⟨x_4, y_4, p_4.below hb p_4.lt⟩⟩, hb⟩
          · obtain rfl := Option.some.inj ho
            refine gw rfl (g_load_all 72 _ (w33.heap.size) ([.bool s_n49, .slice (some ⟨g9, 0, none⟩) l9.length c9]) 72 _ rfl q_m Tryd.underlying72 rfl (szR) ?_)
            exact ⟨own_pd _ rfl rfl, hC, Below.refl _ _⟩
          · obtain rfl := Option.some.inj ho
            have d1 : RN wx (v 1) (-Q) := hall ⟨1, .data⟩ (by simp) rfl _ rfl
            obtain ⟨s8, b8, e8, r8⟩ := d1
            refine gw rfl (g_store_all 72 _ _ (w2.heap.size) [.bool s8, b8] _ 72 rfl (show v 1 = _ from e8) p_3 szR rfl (one_rc _ _ r8.sl) (fun w' h1 h2 => ?_))
            exact ⟨own_pd _ rfl ⟨_, _, h2, r8.turn h1 p_3 (by decide)⟩, ⟨h1.below hC.1 l_p, h1.blk q_a (by omega), h1.blk q_b (by omega), h1.blk q_q (by omega), h1.blk q_m (by omega), g_rdq.turn h1 p_3 (by decide), g_rdr.turn h1 p_3 (by decide), g_rbf.turn h1 p_3 (by decide), g_r_n46.turn h1 p_3 (by decide), g_r_n49.turn h1 p_3 (by decide), ⟨_, _, h2⟩, ⟨x_4, y_4, h1.blk p_4 (by omega)⟩⟩, h1, _, p_3⟩
          · obtain rfl := Option.some.inj ho
            have d2 : v 2 = .agg #[.bool s_n49, .slice (some ⟨g9, 0, none⟩) l9.length c9] := hall ⟨2, .data⟩ (by simp) rfl _ rfl
            refine gw rfl (g_store_all 72 _ _ (w3.heap.size) [.bool s_n49, .slice (some ⟨g9, 0, none⟩) l9.length c9] _ 72 rfl (show v 2 = _ from d2) p_4 szR rfl (one_rc _ _ g_r_n49.sl) (fun w' h1 h2 => ?_))
            exact ⟨own_pd _ rfl ⟨_, _, h2, g_r_n49.turn h1 p_4 (by decide)⟩, ⟨h1.below hC.1 l_r, h1.blk q_a (by omega), h1.blk q_b (by omega), h1.blk q_q (by omega), h1.blk q_m (by omega), g_rdq.turn h1 p_4 (by decide), g_rdr.turn h1 p_4 (by decide), g_rbf.turn h1 p_4 (by decide), g_r_n46.turn h1 p_4 (by decide), g_r_n49.turn h1 p_4 (by decide), ⟨x_3, y_3, h1.blk p_3 (by omega)⟩, ⟨_, _, h2⟩⟩, h1, _, p_4⟩
          · simp at ho
        · simp only [full, Act.put, List.setIfInBounds_toArray, List.set_cons_succ, List.set_cons_zero, Nat.zero_add, Nat.reduceAdd]
          intro v w36 hC hall
          have d0 : v 0 = .agg #[.bool s_n46, v_n46] := hall 0 _ (by decide) rfl
          (try rw [d0])
          clear d0
          generalize v 1 = y1_1
          have d2 : v 2 = .agg #[.bool s_n49, .slice (some ⟨g9, 0, none⟩) l9.length c9] := hall 2 _ (by decide) rfl
          (try rw [d2])
          clear d2
          obtain ⟨s_p1, v_p1, h_p, r_p1⟩ := (hall 3 _ (by decide) rfl : RA w36 (w2.heap.size) (-Q))
          obtain ⟨s_r1, v_r1, h_r, r_r1⟩ := (hall 4 _ (by decide) rfl : RA w36 (w3.heap.size) (M))
          clear hall
          obtain ⟨hC, h_a, h_b, h_q, h_m, g_rdq, g_rdr, g_rbf, g_r_n46, g_r_n49, -, -⟩ := hC
          replace rdq := g_rdq
          replace rdr := g_rdr
          replace rbf := g_rbf
          replace r_n46 := g_r_n46
          replace r_n49 := g_r_n49
          replace b_a := h_a
          replace b_b := h_b
          replace b_q := h_q
          replace b_m := h_m
          replace b_p := h_p
          replace b_r := h_r
          replace hB := hB.trans hC
          clear hC hB0
          go_wp2_with fail
          (try simp only [Exit.inBlock, Exit.then])
          exact bodyPost_ret (results_blk2 rfl _ _ _ _ _ rfl rfl b_p b_r Tryd.underlying72 rfl szR szR) rfl ⟨_, _, rfl, ⟨_, _, rfl, e1.out ▸ r_p1⟩, ⟨_, _, rfl, e2.out ▸ r_r1⟩, hB⟩
      · obtain ⟨hr1_, hr2_⟩ := hres.out
        obtain ⟨e1, e2⟩ := hr2_ hM0
        clear hr1_ hr2_
        have hl9 : ¬ l9.length = 0 := by intro h; apply hM0; rw [List.eq_nil_of_length_eq_zero h, val_nil] at hv9; omega
        replace hM0 : Hid _ := hM0
        replace e1 : Hid _ := e1
        replace e2 : Hid _ := e2
        clear hc9 hv9
        go_wp2_with (first
          | ((with_reducible refine at_loadD 51 4 ?_); refine L_give (by rfl) (g_cell4 _ (w.heap.size) 0 ([.bool true, .slice (some ⟨ga, 0, none⟩) la.length ca]) 72 (.bool true) rfl b_a (rfl) ?_))
          | ((with_reducible refine at_loadD 56 70 ?_); refine L_give (by rfl) (g_cell70 _ (w33.heap.size) 1 ([.bool s_n49, .slice (some ⟨g9, 0, none⟩) l9.length c9]) 72 (.slice (some ⟨g9, 0, none⟩) l9.length c9) rfl b_m (rfl) ?_))
          | ((with_reducible refine at_binD 58 ?_); refine L_give (by rfl) (g_ieq 3 _ _ .i64 _ _ false rfl rfl (decide_eq_false (by omega)) ?_))
          | ((with_reducible refine stop_region 16 ?_); intro X1 hX1))
        refine hX1.out ?_
        clear hX1
        have hB0 := hB.size
        refine wp_region_pred (by kernel_rfl) (by kernel_rfl) [.eq (.agg #[.bool s_n46, v_n46]), .rn (-Q), .rn (-1), .rn (-Q + -1), .eq (.agg #[.bool false, .slice (some ⟨gb, 0, none⟩) lb.length cb]), .eq (.agg #[.bool s_n49, .slice (some ⟨g9, 0, none⟩) l9.length c9]), .rn (-M), .rn (z + -M), .at (w2.heap.size) (-Q + -1), .at (w3.heap.size) (z + -M)] ([none, none, none, none, none, none, none, none, some (w2.heap.size), some (w3.heap.size)]) (fun wx => Below w.heap.size w35 wx ∧ Blk wx (w.heap.size) ([.bool true, .slice (some ⟨ga, 0, none⟩) la.length ca]) 72 ∧ Blk wx (w1.heap.size) ([.bool false, .slice (some ⟨gb, 0, none⟩) lb.length cb]) 72 ∧ Blk wx (w5.heap.size) ([.bool s_n46, v_n46]) 72 ∧ Blk wx (w33.heap.size) ([.bool s_n49, .slice (some ⟨g9, 0, none⟩) l9.length c9]) 72 ∧ (Rd wx (.slice (some ⟨w4.heap.size, 0, none⟩) la.length la.length) lq) ∧ (Rd wx (.slice (some ⟨gr_, 0, none⟩) lr.length cr_) lr) ∧ (RF wx false (.slice (some ⟨gb, 0, none⟩) lb.length cb) z) ∧ (RF wx s_n46 v_n46 (Q)) ∧ (RF wx s_n49 (.slice (some ⟨g9, 0, none⟩) l9.length c9) (M)) ∧ (∃ x y, Blk wx (w2.heap.size) [x, y] 72) ∧ (∃ x y, Blk wx (w3.heap.size) [x, y] 72)) ?_ ?_ ?_ ?_
        · exact nobs2 _ _ 8 9 (b1 := w2.heap.size) (b2 := w3.heap.size) (z1 := (-Q + -1)) (z2 := (z + -M)) ⟨rfl, rfl⟩ (by omega) rfl rfl (by decide)
        · exact ⟨(Below.refl _ _).drew, b_a.drew, b_b.drew, b_q.drew, b_m.drew, rdq.below (Below.refl _ _).drew, rdr.below (Below.refl _ _).drew, rbf.below (Below.refl _ _).drew, r_n46.below (Below.refl _ _).drew, r_n49.below (Below.refl _ _).drew, ⟨_, _, b_p.drew⟩, ⟨_, _, b_r.drew⟩⟩
        · simp only [full, Act.put, List.setIfInBounds_toArray, List.set_cons_succ, List.set_cons_zero, Nat.zero_add, Nat.reduceAdd]
          intro i o ho v wx hC hall
          obtain ⟨hC1, q_a, q_b, q_q, q_m, g_rdq, g_rdr, g_rbf, g_r_n46, g_r_n49, ⟨x_8, y_8, p_8⟩, ⟨x_9, y_9, p_9⟩⟩ := id hC
          rcases i with _ | _ | _ | _ | _ | _ | _ | _ | _ | _ | i
          · obtain rfl := Option.some.inj ho
            refine gw rfl (g_load_all 72 _ (w5.heap.size) ([.bool s_n46, v_n46]) 72 _ rfl q_q Tryd.underlying72 rfl (szR) ?_)
            exact ⟨own_pd _ rfl rfl, hC, Below.refl _ _⟩
          · obtain rfl := Option.some.inj ho
            have d0 : v 0 = .agg #[.bool s_n46, v_n46] := hall ⟨0, .data⟩ (by simp) rfl _ rfl
            refine gw rfl (g_call 34 _ _ [.agg #[.bool s_n46, v_n46]] (kf34 _ _) (by show ([v 0] : List Value) = _; rw [d0]; (try rfl)) ((less_any _ Q wx ⟨_, _, rfl, g_r_n46⟩ fQ).mono ?_))
            rintro e w' ⟨u_, rfl, hp, hb⟩
            exact ⟨_, rfl, own_pd _ rfl hp, ⟨hC.1.trans (hb.mono (Nat.le_trans hB0 hC.1.size)), q_a.below hb q_a.lt, q_b.below hb q_b.lt, q_q.below hb q_q.lt, q_m.below hb q_m.lt, g_rdq.below hb, g_rdr.below hb, g_rbf.below hb, g_r_n46.below hb, g_r_n49.below hb, ⟨x_8, y_8, p_8.below hb p_8.lt⟩, ⟨x_9, y_9, p_9.below hb p_9.lt⟩⟩, hb⟩
          · obtain rfl := Option.some.inj ho
            refine gw rfl (g_call 36 _ _ [.int .i64 (-1)] (kf36 _ _) (rfl) ((rof_any (-1) wx (by unfold In64; omega)).mono ?_))
            rintro e w' ⟨u_, rfl, hp, hb⟩
            exact ⟨_, rfl, own_pd _ rfl hp, ⟨hC.1.trans (hb.mono (Nat.le_trans hB0 hC.1.size)), q_a.below hb q_a.lt, q_b.below hb q_b.lt, q_q.below hb q_q.lt, q_m.below hb q_m.lt, g_rdq.below hb, g_rdr.below hb, g_rbf.below hb, g_r_n46.below hb, g_r_n49.below hb, ⟨x_8, y_8, p_8.below hb p_8.lt⟩, ⟨x_9, y_9, p_9.below hb p_9.lt⟩⟩, hb⟩
          · obtain rfl := Option.some.inj ho
            have d1 : RN wx (v 1) (-Q) := hall ⟨1, .data⟩ (by simp) rfl _ rfl
            have d2 : RN wx (v 2) (-1) := hall ⟨2, .data⟩ (by simp) rfl _ rfl
            refine gw rfl (g_call 33 _ _ [v 1, v 2] (kf33 _ _) (rfl) ((radd_any _ _ (-Q) (-1) (-Q + -1) wx d1 d2 fQ1 f1 rfl).mono ?_))
            rintro e w' ⟨u_, rfl, hp, hb⟩
            exact ⟨_, rfl, own_pd _ rfl hp, ⟨hC.1.trans (hb.mono (Nat.le_trans hB0 hC.1.size)), q_a.below hb q_a.lt, q_b.below hb q_b.lt, q_q.below hb q_q.lt, q_m.below hb q_m.lt, g_rdq.below hb, g_rdr.below hb, g_rbf.below hb, g_r_n46.below hb, g_r_n49.below hb, ⟨x_8, y_8, p_8.below hb p_8.lt⟩, ⟨x_9, y_9, p_9.below hb p_9.lt⟩⟩, hb⟩
          · obtain rfl := Option.some.inj ho
            refine gw rfl (g_load_all 72 _ (w1.heap.size) ([.bool false, .slice (some ⟨gb, 0, none⟩) lb.length cb]) 72 _ rfl q_b Tryd.underlying72 rfl (szR) ?_)
            exact ⟨own_pd _ rfl rfl, hC, Below.refl _ _⟩
          · obtain rfl := Option.some.inj ho
            refine gw rfl (g_load_all 72 _ (w33.heap.size) ([.bool s_n49, .slice (some ⟨g9, 0, none⟩) l9.length c9]) 72 _ rfl q_m Tryd.underlying72 rfl (szR) ?_)
            exact ⟨own_pd _ rfl rfl, hC, Below.refl _ _⟩
          · obtain rfl := Option.some.inj ho
            have d5 : v 5 = .agg #[.bool s_n49, .slice (some ⟨g9, 0, none⟩) l9.length c9] := hall ⟨5, .data⟩ (by simp) rfl _ rfl
            refine gw rfl (g_call 34 _ _ [.agg #[.bool s_n49, .slice (some ⟨g9, 0, none⟩) l9.length c9]] (kf34 _ _) (by show ([v 5] : List Value) = _; rw [d5]; (try rfl)) ((less_any _ M wx ⟨_, _, rfl, g_r_n49⟩ fM).mono ?_))
            rintro e w' ⟨u_, rfl, hp, hb⟩
            exact ⟨_, rfl, own_pd _ rfl hp, ⟨hC.1.trans (hb.mono (Nat.le_trans hB0 hC.1.size)), q_a.below hb q_a.lt, q_b.below hb q_b.lt, q_q.below hb q_q.lt, q_m.below hb q_m.lt, g_rdq.below hb, g_rdr.below hb, g_rbf.below hb, g_r_n46.below hb, g_r_n49.below hb, ⟨x_8, y_8, p_8.below hb p_8.lt⟩, ⟨x_9, y_9, p_9.below hb p_9.lt⟩⟩, hb⟩
          · obtain rfl := Option.some.inj ho
            have d4 : v 4 = .agg #[.bool false, .slice (some ⟨gb, 0, none⟩) lb.length cb] := hall ⟨4, .data⟩ (by simp) rfl _ rfl
            have d6 : RN wx (v 6) (-M) := hall ⟨6, .data⟩ (by simp) rfl _ rfl
            refine gw rfl (g_call 33 _ _ [.agg #[.bool false, .slice (some ⟨gb, 0, none⟩) lb.length cb], v 6] (kf33 _ _) (by show ([v 4, v 6] : List Value) = _; rw [d4]; (try rfl)) ((radd_any _ _ z (-M) (z + -M) wx ⟨_, _, rfl, g_rbf⟩ d6 fz fM1 rfl).mono ?_))
            rintro e w' ⟨u_, rfl, hp, hb⟩
            exact ⟨_, rfl, own_pd _ rfl hp, ⟨hC.1.trans (hb.mono (Nat.le_trans hB0 hC.1.size)), q_a.below hb q_a.lt, q_b.below hb q_b.lt, q_q.below hb q_q.lt, q_m.below hb q_m.lt, g_rdq.below hb, g_rdr.below hb, g_rbf.below hb, g_r_n46.below hb, g_r_n49.below hb, ⟨x_8, y_8, p_8.below hb p_8.lt⟩, ⟨x_9, y_9, p_9.below hb p_9.lt⟩⟩, hb⟩
          · obtain rfl := Option.some.inj ho
            have d3 : RN wx (v 3) (-Q + -1) := hall ⟨3, .data⟩ (by simp) rfl _ rfl
            obtain ⟨s8, b8, e8, r8⟩ := d3
            refine gw rfl (g_store_all 72 _ _ (w2.heap.size) [.bool s8, b8] _ 72 rfl (show v 3 = _ from e8) p_8 szR rfl (one_rc _ _ r8.sl) (fun w' h1 h2 => ?_))
            exact ⟨own_pd _ rfl ⟨_, _, h2, r8.turn h1 p_8 (by decide)⟩, ⟨h1.below hC.1 l_p, h1.blk q_a (by omega), h1.blk q_b (by omega), h1.blk q_q (by omega), h1.blk q_m (by omega), g_rdq.turn h1 p_8 (by decide), g_rdr.turn h1 p_8 (by decide), g_rbf.turn h1 p_8 (by decide), g_r_n46.turn h1 p_8 (by decide), g_r_n49.turn h1 p_8 (by decide), ⟨_, _, h2⟩, ⟨x_9, y_9, h1.blk p_9 (by omega)⟩⟩, h1, _, p_8⟩
          · obtain rfl := Option.some.inj ho
            have d7 : RN wx (v 7) (z + -M) := hall ⟨7, .data⟩ (by simp) rfl _ rfl
            obtain ⟨s8, b8, e8, r8⟩ := d7
            refine gw rfl (g_store_all 72 _ _ (w3.heap.size) [.bool s8, b8] _ 72 rfl (show v 7 = _ from e8) p_9 szR rfl (one_rc _ _ r8.sl) (fun w' h1 h2 => ?_))
            exact ⟨own_pd _ rfl ⟨_, _, h2, r8.turn h1 p_9 (by decide)⟩, ⟨h1.below hC.1 l_r, h1.blk q_a (by omega), h1.blk q_b (by omega), h1.blk q_q (by omega), h1.blk q_m (by omega), g_rdq.turn h1 p_9 (by decide), g_rdr.turn h1 p_9 (by decide), g_rbf.turn h1 p_9 (by decide), g_r_n46.turn h1 p_9 (by decide), g_r_n49.turn h1 p_9 (by decide), ⟨x_8, y_8, h1.blk p_8 (by omega)⟩, ⟨_, _, h2⟩⟩, h1, _, p_9⟩
          · simp at ho
        · simp only [full, Act.put, List.setIfInBounds_toArray, List.set_cons_succ, List.set_cons_zero, Nat.zero_add, Nat.reduceAdd]
          intro v w36 hC hall
          have d0 : v 0 = .agg #[.bool s_n46, v_n46] := hall 0 _ (by decide) rfl
          (try rw [d0])
          clear d0
          generalize v 1 = y1_1
          generalize v 2 = y1_2
          generalize v 3 = y1_3
          have d4 : v 4 = .agg #[.bool false, .slice (some ⟨gb, 0, none⟩) lb.length cb] := hall 4 _ (by decide) rfl
          (try rw [d4])
          clear d4
          have d5 : v 5 = .agg #[.bool s_n49, .slice (some ⟨g9, 0, none⟩) l9.length c9] := hall 5 _ (by decide) rfl
          (try rw [d5])
          clear d5
          generalize v 6 = y1_6
          generalize v 7 = y1_7
          obtain ⟨s_p1, v_p1, h_p, r_p1⟩ := (hall 8 _ (by decide) rfl : RA w36 (w2.heap.size) (-Q + -1))
          obtain ⟨s_r1, v_r1, h_r, r_r1⟩ := (hall 9 _ (by decide) rfl : RA w36 (w3.heap.size) (z + -M))
          clear hall
          obtain ⟨hC, h_a, h_b, h_q, h_m, g_rdq, g_rdr, g_rbf, g_r_n46, g_r_n49, -, -⟩ := hC
          replace rdq := g_rdq
          replace rdr := g_rdr
          replace rbf := g_rbf
          replace r_n46 := g_r_n46
          replace r_n49 := g_r_n49
          replace b_a := h_a
          replace b_b := h_b
          replace b_q := h_q
          replace b_m := h_m
          replace b_p := h_p
          replace b_r := h_r
          replace hB := hB.trans hC
          clear hC hB0
          go_wp2_with fail
          (try simp only [Exit.inBlock, Exit.then])
          exact bodyPost_ret (results_blk2 rfl _ _ _ _ _ rfl rfl b_p b_r Tryd.underlying72 rfl szR szR) rfl ⟨_, _, rfl, ⟨_, _, rfl, e1.out ▸ r_p1⟩, ⟨_, _, rfl, e2.out ▸ r_r1⟩, hB⟩
    · have hke : ((k + 1 : Nat) : Int) - 1 = (k : Int) := by omega
      rw [hke]
      clear hke
      obtain ⟨x, hx⟩ : ∃ x, atB la k = x := ⟨_, rfl⟩
      have hd := val_drop la k
      rw [hx] at hd
      have hki : (k : Int) < (la.length : Int) := by omega
      have hsz := hB.size
      have hab := bit_cell hB rda k (by omega)
      rw [hx] at hab
      have ca1 := b_a.cell 1 _ rfl
      have hqk : atB lq k = false := by
        have h := congrArg (fun l => atB l k) htk
        simp only [atB] at h
        rw [List.getD_eq_getElem?_getD, List.getElem?_take, if_pos (by omega)] at h
        simpa [atB, List.getD_eq_getElem?_getD] using h
      have htk2 : lq.take k = List.replicate k false := by
        have h := congrArg (List.take k) htk
        rwa [List.take_take, Nat.min_eq_left (by omega), List.take_replicate, Nat.min_eq_left (by omega)] at h
      have hdq := val_drop lq k
      rw [hqk, bit_false, Nat.zero_add] at hdq
      have s0 := div_step _ _ _ _ _ _ hd hv
      have s1 := div_step1 _ _ _ _ _ _ hd hv
      have hbx := bit_le x
      obtain ⟨Rg, hRg⟩ : ∃ Rg, cmpN (val ([x] ++ lr)) (val lb) = Rg := ⟨_, rfl⟩
      have hvx : val ([x] ++ lr) = bit x + 2 * val lr := rfl
      replace hRg : Hid _ := hRg
      replace s0 : Hid _ := s0
      replace s1 : Hid _ := s1
      replace hdq : Hid _ := hdq
      replace htk2 : Hid _ := htk2
      replace hvx : Hid _ := hvx
      clear hv htk hqk hd
      replace hx : Hid _ := hx
      have hgt : (val lb ≤ val ([x] ++ lr) ∧ 0 ≤ Rg) ∨ (val ([x] ++ lr) < val lb ∧ ¬ 0 ≤ Rg) := by
        have h := hRg.out
        unfold cmpN at h
        by_cases c1 : val ([x] ++ lr) < val lb
        · rw [if_pos c1] at h; exact .inr ⟨c1, by omega⟩
        · refine .inl ⟨by omega, ?_⟩
          rw [if_neg c1] at h; split at h <;> omega
      replace hlt : Hid _ := hlt
      replace hbx : Hid _ := hbx
      rcases hgt with ⟨hge, hR0⟩ | ⟨hge, hR0⟩
      · replace hge : Hid _ := hge
        go_wp2_with (first
          | ((with_reducible refine at_build 1 ?_); refine L_b1 _ x rfl ?_; intro w24 t4 b4)
          | ((with_reducible refine at_append ?_); refine L_app _ _ wr.heap.size _ _ [x] lr rfl rfl (own1 b4 (Nat.le_refl _)) (rdr.below t4.toBelow) (by simp; omega) t4.size ?_; intro v5 w25 o5 b5 n5; have hB5 : Below wr.heap.size wr w25 := t4.toBelow.trans b5; have hBw := hB.trans (hB5.mono hsz); have q_a := b_a.below hB5 b_a.lt; have q_b := b_b.below hB5 b_b.lt; have q_p := b_p.below hB5 b_p.lt; have q_r := b_r.below hB5 b_r.lt; have q_q := b_q.below hB5 b_q.lt; have bq5 := bq.below hB5 bq.lt; have cb1 := q_b.cell 1 _ rfl))
        have rd5 := o5.rd (o5.nonnil (by simp))
        have hsz5 := hB5.size
        refine (greater_any v5 _ ([x] ++ lr) lb w25 rd5 (rdb.below hBw) (by simp; omega) (by omega) Rg hRg).mono ?_
        rintro e w8 ⟨rfl, hW_⟩
        rw [hW_]
        clear hW_ w8 ca1 hab
        go_wp2_with fail
        refine (off_own v5 _ ([x] ++ lr) lb w25 rd5 (rdb.below hBw) (by simp; omega) (by omega) hge.out).mono ?_
        rintro e w26 ⟨v6, rfl, ⟨l6, o6, n6, hv6, hn6⟩, t6⟩
        have z_a := q_a.below t6 q_a.lt
        have z_b := q_b.below t6 q_b.lt
        have z_p := q_p.below t6 q_p.lt
        have z_r := q_r.below t6 q_r.lt
        have z_q := q_q.below t6 q_q.lt
        have bq6 := bq5.below t6 bq5.lt
        have hBz := hBw.trans (t6.mono hBw.size)
        have cq1 := z_q.cell 1 _ rfl
        have cqk := bq6.cell k _ (bl_at lq k (by omega))
        have cqf := bq6.frozen k
        have hgq := bq5.lt
        clear cb1
        go_wp2_with fail
        obtain ⟨t7, b7⟩ := turn_setCell w26 _ k (.bool true) _ 4 bq6
        rw [bl_set] at b7
        refine ⟨⟨k, lq.set k true, by omega, by go_num, t7.blk z_a (z_a.ne bq6), t7.blk z_b (z_b.ne bq6), t7.blk z_p (z_p.ne bq6), t7.blk z_r (z_r.ne bq6), t7.blk z_q (z_q.ne bq6), b7, by rw [List.length_set]; exact hlq, t7.below hBz l_gq, l6, (o6.turn t7 hgq).rd n6, ?_, ?_, ?_, ?_⟩, by simp [intOf]⟩
        · rw [hv6, val_set lq k (by omega), hvx.out]; exact s1.out (by have := hge.out; rw [hvx.out] at this; exact this)
        · rw [hv6]; have h1 := hge.out; have h2 := hlt.out; have h3 := hbx.out; rw [hvx.out] at h1 ⊢; omega
        · rw [take_set]; exact htk2.out
        · rw [List.length_append] at hn6; simp at hn6; omega
      · replace hge : Hid _ := hge
        go_wp2_with (first
          | ((with_reducible refine at_build 1 ?_); refine L_b1 _ x rfl ?_; intro w24 t4 b4)
          | ((with_reducible refine at_append ?_); refine L_app _ _ wr.heap.size _ _ [x] lr rfl rfl (own1 b4 (Nat.le_refl _)) (rdr.below t4.toBelow) (by simp; omega) t4.size ?_; intro v5 w25 o5 b5 n5; have hB5 : Below wr.heap.size wr w25 := t4.toBelow.trans b5; have hBw := hB.trans (hB5.mono hsz); have q_a := b_a.below hB5 b_a.lt; have q_b := b_b.below hB5 b_b.lt; have q_p := b_p.below hB5 b_p.lt; have q_r := b_r.below hB5 b_r.lt; have q_q := b_q.below hB5 b_q.lt; have bq5 := bq.below hB5 bq.lt; have cb1 := q_b.cell 1 _ rfl))
        have rd5 := o5.rd (o5.nonnil (by simp))
        have hsz5 := hB5.size
        refine (greater_any v5 _ ([x] ++ lr) lb w25 rd5 (rdb.below hBw) (by simp; omega) (by omega) Rg hRg).mono ?_
        rintro e w8 ⟨rfl, hW_⟩
        rw [hW_]
        clear hW_ w8 ca1 hab
        go_wp2_with fail
        refine ⟨⟨k, lq, by omega, by go_num, q_a, q_b, q_p, q_r, q_q, bq5, hlq, hBw, [x] ++ lr, rd5, ?_, hge.out, htk2.out, ?_⟩, by simp [intOf]⟩
        · rw [s0.out, hdq.out, hvx.out]
        · simp; omega

theorem rdiv_any (u v : Value) (y z : Int) (w : World) (hu : RN w u y) (hv : RN w v z) (fy : Few y 200) (fz : Few z 200) (hz : 0 < z) :
    Calls Tryd.prog 35 #[u, v] w fun e w' => ∃ u v, e = .returned (.tuple #[u, v]) ∧ RN w' u (y / z) ∧ RN w' v (y % z) ∧ Below w.heap.size w w' := by
  obtain ⟨sa, ba, rfl, ra⟩ := hu
  obtain ⟨sb, bb, rfl, rb⟩ := hv
  have hs := rb.sign
  rw [decide_eq_false (by omega)] at hs
  subst hs
  obtain ⟨la, da, -, ea, -, na⟩ := ra.len fy
  obtain ⟨lb, db, -, eb, -, nb⟩ := rb.len fz
  obtain ⟨ga, ca, spa, rfl, -⟩ := id da
  obtain ⟨gb, cb, spb, rfl, -⟩ := id db
  rw [iv_false] at eb
  cases sa
  · exact rdiv_0 ga ca gb cb la lb y z w da db rb na nb (by omega) ea eb fy fz
  · exact rdiv_1 ga ca gb cb la lb y z w da db rb na nb (by omega) ea eb fy fz

end Go.Proofs.YtpenicjlpiechaaDoor.Wd
