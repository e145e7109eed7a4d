/- What the reference's Less and Add answer. -/
import Derived.Test.YtpenicjlpiechaaDoorQPred
import Derived.Test.YtpenicjlpiechaaDoorQRefOf
import Derived.Test.YtpenicjlpiechaaDoorQWide6
namespace Go.Proofs.YtpenicjlpiechaaDoor.Wd
set_option maxRecDepth 10000
open Go Go.RowKit
set_option linter.unusedVariables false
theorem iv_not (s : Bool) (l : List Bool) : iv (!s) l = -iv s l := by cases s <;> simp [iv]
theorem bare_n (s : Bool) (b : Value) (l : List Bool) (z : Int) (w : World) (hr : Rd w b l) (hn : l.length ≤ 4000) (hz : Hid (iv s l = z)) :
    Calls Tryd.prog 55 #[.agg #[.bool s, b]] w fun e w' => ∃ u, e = .returned u ∧ RN w' u z ∧ Below w.heap.size w w' := by
  have h := bare_any s b l w hr hn
  rwa [hz.out] at h
/-- How many bits there are, at most. -/
def Few (z : Int) (k : Nat) : Prop := z.natAbs < 2 ^ k
theorem RF.len {w : World} {s : Bool} {b : Value} {z : Int} {k : Nat} (h : RF w s b z) (hk : Few z k) : ∃ l, Rd w b l ∧ Can l ∧ z = iv s l ∧ (l = [] → s = false) ∧ l.length ≤ k := by
  obtain ⟨l, h1, h2, h3, h4⟩ := h
  refine ⟨l, h1, h2, h3, h4, (h2.len k).2 ?_⟩
  unfold Few at hk
  have : z.natAbs = val l := by rw [h3, iv]; cases s <;> simp
  omega

set_option maxRecDepth 10000 in
set_option maxHeartbeats 4000000 in
theorem less_any (u : Value) (z : Int) (w : World) (h : RN w u z) (hf : Few z 200) :
    Calls Tryd.prog 34 #[u] w fun e w' => ∃ u, e = .returned u ∧ RN w' u (-z) ∧ Below w.heap.size w w' := by
  obtain ⟨s, b, rfl, rf⟩ := h
  obtain ⟨l, rd, -, hz0, -, hl⟩ := rf.len hf
  have hz : Hid (iv (!s) l = -z) := by show _ = _; rw [iv_not, hz0]
  obtain ⟨pb, pn, pc, rfl⟩ := rd.sl
  clear hz0 hf
  go_enter Tryd.func34, Tryd.ntmps34
  go_wp2_with (first
    | ((with_reducible refine at_boxD 1 72 ?_); refine L_box 72 _ ([.bool s, .slice pb pn pc]) rfl ?_; intro w1 t_ b_a; have l_a : w.heap.size ≤ w.heap.size := Nat.le_refl _; replace rf := rf.below t_.toBelow; have hB : Below w.heap.size w w1 := t_.below (Below.refl _ _) (Nat.le_refl _); clear t_)
    | ((with_reducible refine at_allocD 2 72 ?_); refine L_alloc 72 ([.bool false, .slice none 0 0]) zeroR ?_; intro w2 t_ b_r; have l_r : w.heap.size ≤ w1.heap.size := hB.size; have o_r := b_a.lt; replace rf := rf.below t_.toBelow; replace b_a := t_.blk b_a (by omega); replace hB := t_.below hB l_r; clear t_)
    | ((with_reducible refine at_loadD 4 4 ?_); refine L_give (by rfl) (g_cell4 _ (w.heap.size) 0 ([.bool s, .slice pb pn pc]) 72 (.bool (s)) rfl b_a (rfl) ?_))
    | ((with_reducible refine at_loadD 7 70 ?_); refine L_give (by rfl) (g_cell70 _ (w.heap.size) 1 ([.bool s, .slice pb pn pc]) 72 (.slice pb pn pc) rfl b_a (rfl) ?_)))
  refine (bare_n (!s) (.slice pb pn pc) l (-z) w2 (rd.below hB) (by omega) hz).mono ?_
  rintro e w3 ⟨_, rfl, ⟨s_n9, v_n9, rfl, r_n9⟩, t_⟩
  replace rf := rf.below t_
  replace b_a := b_a.below t_ b_a.lt
  replace b_r := b_r.below t_ b_r.lt
  replace hB := hB.trans (t_.mono hB.size)
  clear t_
  go_wp2_with (first
    | ((with_reducible refine at_storeX 2 72 ?_); refine L_store_all 72 _ _ (w1.heap.size) ([.bool s_n9, v_n9]) _ 72 rfl rfl b_r (szR) (rfl) (one_rc _ _ r_n9.sl) ?_; have b0_r := b_r; clear b_r; intro w4 t_ b_r; replace rf := rf.turn t_ b0_r (by decide); replace r_n9 := r_n9.turn t_ b0_r (by decide); replace b_a := t_.blk b_a (by omega); replace hB := t_.below hB l_r; clear t_ b0_r))
  (try simp only [Exit.inBlock, Exit.then])
  exact bodyPost_ret (results_blk rfl _ _ _ rfl b_r Tryd.underlying72 rfl szR) rfl ⟨_, rfl, ⟨_, _, rfl, r_n9⟩, hB⟩

theorem sum_rs (va vb : Value) (la lb : List Bool) (n : Nat) (w : World) (ra : Rd w va la) (rb : Rd w vb lb) (na : la.length ≤ 2000) (nb : lb.length ≤ 2000) (hn : Hid (val la + val lb = n)) :
    Calls Tryd.prog 56 #[va, vb] w fun e w' => ∃ v, e = .returned v ∧ RS w' v n 2001 ∧ Below w.heap.size w w' := by
  refine (sum_any va vb la lb w ra rb na nb).mono ?_
  rintro e w' ⟨v, h1, ⟨l, h2, h3, h4⟩, h5⟩
  exact ⟨v, h1, ⟨l, h2, by rw [h3, hn.out], by omega⟩, h5⟩
theorem off_rs (va vb : Value) (la lb : List Bool) (n : Nat) (w : World) (ra : Rd w va la) (rb : Rd w vb lb) (na : la.length ≤ 2000) (nb : lb.length ≤ 2000) (hle : val lb ≤ val la) (hn : Hid (val la - val lb = n)) :
    Calls Tryd.prog 58 #[va, vb] w fun e w' => ∃ v, e = .returned v ∧ RS w' v n 2000 ∧ Below w.heap.size w w' := by
  refine (off_any va vb la lb w ra rb na nb hle).mono ?_
  rintro e w' ⟨v, h1, ⟨l, h2, h3, h4⟩, h5⟩
  exact ⟨v, h1, ⟨l, h2, by rw [h3, hn.out], by omega⟩, h5⟩

set_option maxRecDepth 10000 in
set_option maxHeartbeats 4000000 in
theorem add_00 (ba bb : Value) (la lb : List Bool) (z : Int) (n : Nat) (w : World) (da : Rd w ba la) (db : Rd w bb lb) (na : la.length ≤ 2000) (nb : lb.length ≤ 2000) (hn : Hid (val la + val lb = n)) (hz : Hid ((if false then -(n : Int) else n) = z)) :
    Calls Tryd.prog 33 #[.agg #[.bool false, ba], .agg #[.bool false, bb]] w fun e w' => ∃ u, e = .returned u ∧ RN w' u z ∧ Below w.heap.size w w' := by
  go_enter Tryd.func33, Tryd.ntmps33
  go_wp2_with (first
    | ((with_reducible refine at_boxD 2 72 ?_); refine L_box 72 _ ([.bool false, ba]) rfl ?_; intro w1 t_ b_a; have l_a : w.heap.size ≤ w.heap.size := Nat.le_refl _; have hB : Below w.heap.size w w1 := t_.below (Below.refl _ _) (Nat.le_refl _); clear t_)
    | ((with_reducible refine at_boxD 3 72 ?_); refine L_box 72 _ ([.bool false, bb]) rfl ?_; intro w2 t_ b_b; have l_b : w.heap.size ≤ w1.heap.size := hB.size; have o_b := b_a.lt; replace b_a := t_.blk b_a (by omega); replace hB := t_.below hB l_b; clear t_)
    | ((with_reducible refine at_allocD 4 72 ?_); refine L_alloc 72 ([.bool false, .slice none 0 0]) zeroR ?_; intro w3 t_ b_r; have l_r : w.heap.size ≤ w2.heap.size := hB.size; have o_r := b_b.lt; replace b_a := t_.blk b_a (by omega); replace b_b := t_.blk b_b (by omega); replace hB := t_.below hB l_r; clear t_)
    | ((with_reducible refine at_loadD 6 4 ?_); refine L_give (by rfl) (g_cell4 _ (w.heap.size) 0 ([.bool false, ba]) 72 (.bool false) rfl b_a (rfl) ?_))
    | ((with_reducible refine at_loadD 8 4 ?_); refine L_give (by rfl) (g_cell4 _ (w1.heap.size) 0 ([.bool false, bb]) 72 (.bool false) rfl b_b (rfl) ?_))
    | ((with_reducible refine stop_region 2 ?_); intro X1 hX1))
  refine hX1.out ?_
  clear hX1
  have hB0 := hB.size
  refine wp_region_pred (by kernel_rfl) (by kernel_rfl) [.eq (.pointer (some ⟨w.heap.size, 0, none⟩)), .eq (.bool false), .eq (.pointer (some ⟨w.heap.size, 1, none⟩)), .eq (ba), .eq (.pointer (some ⟨w1.heap.size, 1, none⟩)), .eq (bb), .rs (n) (2001), .rb false (n) (2001), .rn (z), .at (w2.heap.size) (z)] ([none, none, none, none, none, none, none, none, none, some (w2.heap.size)]) (fun wx => Below w.heap.size w3 wx ∧ Blk wx (w.heap.size) ([.bool false, ba]) 72 ∧ Blk wx (w1.heap.size) ([.bool false, bb]) 72 ∧ (∃ x y, Blk wx (w2.heap.size) [x, y] 72)) ?_ ?_ ?_ ?_
  · exact nobs1 _ _ 9 rfl rfl
  · exact ⟨(Below.refl _ _).drew, b_a.drew, b_b.drew, ⟨_, _, b_r.drew⟩⟩
  · simp only [full, Act.put, List.setIfInBounds_toArray, List.set_cons_succ, List.set_cons_zero, Nat.zero_add, Nat.reduceAdd]
    intro i o ho v wx hC hall
    obtain ⟨hC1, q_a, q_b, ⟨x_9, y_9, p_9⟩⟩ := id hC
    rcases i with _ | _ | _ | _ | _ | _ | _ | _ | _ | _ | i
    · obtain rfl := Option.some.inj ho
      refine gw rfl (g_fieldR_0 _ _ rfl ?_)
      exact ⟨own_pd _ rfl rfl, hC, Below.refl _ _⟩
    · obtain rfl := Option.some.inj ho
      have d0 : v 0 = .pointer (some ⟨w.heap.size, 0, none⟩) := hall ⟨0, .data⟩ (by simp) rfl _ rfl
      refine gw rfl (g_cell4 _ (w.heap.size) 0 ([.bool false, ba]) 72 _ (show v 0 = _ from d0) q_a (rfl) ?_)
      exact ⟨own_pd _ rfl rfl, hC, Below.refl _ _⟩
    · obtain rfl := Option.some.inj ho
      refine gw rfl (g_fieldR_1 _ _ rfl ?_)
      exact ⟨own_pd _ rfl rfl, hC, Below.refl _ _⟩
    · obtain rfl := Option.some.inj ho
      have d2 : v 2 = .pointer (some ⟨w.heap.size, 1, none⟩) := hall ⟨2, .data⟩ (by simp) rfl _ rfl
      refine gw rfl (g_cell70 _ (w.heap.size) 1 ([.bool false, ba]) 72 _ (show v 2 = _ from d2) q_a (rfl) ?_)
      exact ⟨own_pd _ rfl rfl, hC, Below.refl _ _⟩
    · obtain rfl := Option.some.inj ho
      refine gw rfl (g_fieldR_1 _ _ rfl ?_)
      exact ⟨own_pd _ rfl rfl, hC, Below.refl _ _⟩
    · obtain rfl := Option.some.inj ho
      have d4 : v 4 = .pointer (some ⟨w1.heap.size, 1, none⟩) := hall ⟨4, .data⟩ (by simp) rfl _ rfl
      refine gw rfl (g_cell70 _ (w1.heap.size) 1 ([.bool false, bb]) 72 _ (show v 4 = _ from d4) q_b (rfl) ?_)
      exact ⟨own_pd _ rfl rfl, hC, Below.refl _ _⟩
    · obtain rfl := Option.some.inj ho
      have d3 : v 3 = ba := hall ⟨3, .data⟩ (by simp) rfl _ rfl
      have d5 : v 5 = bb := hall ⟨5, .data⟩ (by simp) rfl _ rfl
      refine gw rfl (g_call 56 _ _ [ba, bb] (kf56 _ _) (by show ([v 3, v 5] : List Value) = _; rw [d3, d5]; (try rfl)) ((sum_rs ba bb la lb n wx (da.below (hB.trans hC.1)) (db.below (hB.trans hC.1)) na nb hn).mono ?_))
      rintro e w' ⟨u_, rfl, hp, hb⟩
      exact ⟨_, rfl, own_pd _ rfl hp, ⟨hC.1.trans (hb.mono (Nat.le_trans hB0 hC.1.size)), q_a.below hb q_a.lt, q_b.below hb q_b.lt, ⟨x_9, y_9, p_9.below hb p_9.lt⟩⟩, hb⟩
    · obtain rfl := Option.some.inj ho
      have d1 : v 1 = .bool false := hall ⟨1, .data⟩ (by simp) rfl _ rfl
      have d6 : RS wx (v 6) (n) (2001) := hall ⟨6, .data⟩ (by simp) rfl _ rfl
      refine gw rfl (g_buildR _ _ false (v 6) d6.sl (show v 1 = _ from d1) rfl ?_)
      exact ⟨own_pd _ rfl ⟨v 6, rfl, d6⟩, hC, Below.refl _ _⟩
    · obtain rfl := Option.some.inj ho
      have d7 : RB wx (v 7) false (n) (2001) := hall ⟨7, .data⟩ (by simp) rfl _ rfl
      obtain ⟨b7_, e7_, r7_⟩ := d7
      refine gw rfl (g_call 55 _ _ [.agg #[.bool false, b7_]] (kf55 _ _) (by show ([v 7] : List Value) = _; rw [e7_]; (try rfl)) ((bare_rs false b7_ n 2001 z wx r7_ (by omega) hz).mono ?_))
      rintro e w' ⟨u_, rfl, hp, hb⟩
      exact ⟨_, rfl, own_pd _ rfl hp, ⟨hC.1.trans (hb.mono (Nat.le_trans hB0 hC.1.size)), q_a.below hb q_a.lt, q_b.below hb q_b.lt, ⟨x_9, y_9, p_9.below hb p_9.lt⟩⟩, hb⟩
    · obtain rfl := Option.some.inj ho
      have d8 : RN wx (v 8) (z) := hall ⟨8, .data⟩ (by simp) rfl _ rfl
      obtain ⟨s8, b8, e8, r8⟩ := d8
      refine gw rfl (g_store_all 72 _ _ (w2.heap.size) [.bool s8, b8] _ 72 rfl (show v 8 = _ from e8) p_9 szR rfl (one_rc _ _ r8.sl) (fun w' h1 h2 => ?_))
      exact ⟨own_pd _ rfl ⟨_, _, h2, r8.turn h1 p_9 (by decide)⟩, ⟨h1.below hC.1 l_r, h1.blk q_a (by omega), h1.blk q_b (by omega), ⟨_, _, h2⟩⟩, h1, _, p_9⟩
    · simp at ho
  · simp only [full, Act.put, List.setIfInBounds_toArray, List.set_cons_succ, List.set_cons_zero, Nat.zero_add, Nat.reduceAdd]
    intro v w4 hC hall
    have d0 : v 0 = .pointer (some ⟨w.heap.size, 0, none⟩) := hall 0 _ (by decide) rfl
    (try rw [d0])
    clear d0
    have d1 : v 1 = .bool false := hall 1 _ (by decide) rfl
    (try rw [d1])
    clear d1
    have d2 : v 2 = .pointer (some ⟨w.heap.size, 1, none⟩) := hall 2 _ (by decide) rfl
    (try rw [d2])
    clear d2
    have d3 : v 3 = ba := hall 3 _ (by decide) rfl
    (try rw [d3])
    clear d3
    have d4 : v 4 = .pointer (some ⟨w1.heap.size, 1, none⟩) := hall 4 _ (by decide) rfl
    (try rw [d4])
    clear d4
    have d5 : v 5 = bb := hall 5 _ (by decide) rfl
    (try rw [d5])
    clear d5
    generalize v 6 = y1_6
    generalize v 7 = y1_7
    generalize v 8 = y1_8
    obtain ⟨s_r1, v_r1, h_r, r_r1⟩ := (hall 9 _ (by decide) rfl : RA w4 (w2.heap.size) (z))
    clear hall
    obtain ⟨hC, h_a, h_b, -⟩ := hC
    replace b_a := h_a
    replace b_b := h_b
    replace b_r := h_r
    replace hB := hB.trans hC
    clear hC hB0
    go_wp2_with fail
    (try simp only [Exit.inBlock, Exit.then])
    exact bodyPost_ret (results_blk rfl _ _ _ rfl b_r Tryd.underlying72 rfl szR) rfl ⟨_, rfl, ⟨_, _, rfl, r_r1⟩, hB⟩

set_option maxRecDepth 10000 in
set_option maxHeartbeats 4000000 in
theorem add_01ge (ba bb : Value) (la lb : List Bool) (z : Int) (n : Nat) (w : World) (da : Rd w ba la) (db : Rd w bb lb) (na : la.length ≤ 2000) (nb : lb.length ≤ 2000) (R : Int) (hR : Hid (cmpN (val la) (val lb) = R)) (h0 : 0 ≤ R) (hle : val lb ≤ val la) (hn : Hid (val la - val lb = n)) (hz : Hid ((if false then -(n : Int) else n) = z)) :
    Calls Tryd.prog 33 #[.agg #[.bool false, ba], .agg #[.bool true, bb]] w fun e w' => ∃ u, e = .returned u ∧ RN w' u z ∧ Below w.heap.size w w' := by
  go_enter Tryd.func33, Tryd.ntmps33
  go_wp2_with (first
    | ((with_reducible refine at_boxD 2 72 ?_); refine L_box 72 _ ([.bool false, ba]) rfl ?_; intro w1 t_ b_a; have l_a : w.heap.size ≤ w.heap.size := Nat.le_refl _; have hB : Below w.heap.size w w1 := t_.below (Below.refl _ _) (Nat.le_refl _); clear t_)
    | ((with_reducible refine at_boxD 3 72 ?_); refine L_box 72 _ ([.bool true, bb]) rfl ?_; intro w2 t_ b_b; have l_b : w.heap.size ≤ w1.heap.size := hB.size; have o_b := b_a.lt; replace b_a := t_.blk b_a (by omega); replace hB := t_.below hB l_b; clear t_)
    | ((with_reducible refine at_allocD 4 72 ?_); refine L_alloc 72 ([.bool false, .slice none 0 0]) zeroR ?_; intro w3 t_ b_r; have l_r : w.heap.size ≤ w2.heap.size := hB.size; have o_r := b_b.lt; replace b_a := t_.blk b_a (by omega); replace b_b := t_.blk b_b (by omega); replace hB := t_.below hB l_r; clear t_)
    | ((with_reducible refine at_loadD 6 4 ?_); refine L_give (by rfl) (g_cell4 _ (w.heap.size) 0 ([.bool false, ba]) 72 (.bool false) rfl b_a (rfl) ?_))
    | ((with_reducible refine at_loadD 8 4 ?_); refine L_give (by rfl) (g_cell4 _ (w1.heap.size) 0 ([.bool true, bb]) 72 (.bool true) rfl b_b (rfl) ?_))
    | ((with_reducible refine at_loadD 20 70 ?_); refine L_give (by rfl) (g_cell70 _ (w.heap.size) 1 ([.bool false, ba]) 72 (ba) rfl b_a (rfl) ?_))
    | ((with_reducible refine at_loadD 22 70 ?_); refine L_give (by rfl) (g_cell70 _ (w1.heap.size) 1 ([.bool true, bb]) 72 (bb) rfl b_b (rfl) ?_)))
  refine (greater_any ba bb la lb w3 (da.below hB) (db.below hB) na nb R hR).mono ?_
  rintro e w4 ⟨rfl, hW_⟩
  rw [hW_]
  clear hW_ w4
  go_wp2_with (first
    | ((with_reducible refine at_binD 24 ?_); refine L_give (by rfl) (g_igeq 3 _ _ .i64 _ _ true rfl rfl (decide_eq_true (by omega)) ?_))
    | ((with_reducible refine stop_region 4 ?_); intro X1 hX1))
  refine hX1.out ?_
  clear hX1
  have hB0 := hB.size
  refine wp_region_pred (by kernel_rfl) (by kernel_rfl) [.eq (.pointer (some ⟨w.heap.size, 0, none⟩)), .eq (.bool false), .eq (.pointer (some ⟨w.heap.size, 1, none⟩)), .eq (ba), .eq (.pointer (some ⟨w1.heap.size, 1, none⟩)), .eq (bb), .rs (n) (2000), .rb false (n) (2000), .rn (z), .at (w2.heap.size) (z)] ([none, none, none, none, none, none, none, none, none, some (w2.heap.size)]) (fun wx => Below w.heap.size w3 wx ∧ Blk wx (w.heap.size) ([.bool false, ba]) 72 ∧ Blk wx (w1.heap.size) ([.bool true, bb]) 72 ∧ (∃ x y, Blk wx (w2.heap.size) [x, y] 72)) ?_ ?_ ?_ ?_
  · exact nobs1 _ _ 9 rfl rfl
  · exact ⟨(Below.refl _ _).drew, b_a.drew, b_b.drew, ⟨_, _, b_r.drew⟩⟩
  · simp only [full, Act.put, List.setIfInBounds_toArray, List.set_cons_succ, List.set_cons_zero, Nat.zero_add, Nat.reduceAdd]
    intro i o ho v wx hC hall
    obtain ⟨hC1, q_a, q_b, ⟨x_9, y_9, p_9⟩⟩ := id hC
    rcases i with _ | _ | _ | _ | _ | _ | _ | _ | _ | _ | i
    · obtain rfl := Option.some.inj ho
      refine gw rfl (g_fieldR_0 _ _ rfl ?_)
      exact ⟨own_pd _ rfl rfl, hC, Below.refl _ _⟩
    · obtain rfl := Option.some.inj ho
      have d0 : v 0 = .pointer (some ⟨w.heap.size, 0, none⟩) := hall ⟨0, .data⟩ (by simp) rfl _ rfl
      refine gw rfl (g_cell4 _ (w.heap.size) 0 ([.bool false, ba]) 72 _ (show v 0 = _ from d0) q_a (rfl) ?_)
      exact ⟨own_pd _ rfl rfl, hC, Below.refl _ _⟩
    · obtain rfl := Option.some.inj ho
      refine gw rfl (g_fieldR_1 _ _ rfl ?_)
      exact ⟨own_pd _ rfl rfl, hC, Below.refl _ _⟩
    · obtain rfl := Option.some.inj ho
      have d2 : v 2 = .pointer (some ⟨w.heap.size, 1, none⟩) := hall ⟨2, .data⟩ (by simp) rfl _ rfl
      refine gw rfl (g_cell70 _ (w.heap.size) 1 ([.bool false, ba]) 72 _ (show v 2 = _ from d2) q_a (rfl) ?_)
      exact ⟨own_pd _ rfl rfl, hC, Below.refl _ _⟩
    · obtain rfl := Option.some.inj ho
      refine gw rfl (g_fieldR_1 _ _ rfl ?_)
      exact ⟨own_pd _ rfl rfl, hC, Below.refl _ _⟩
    · obtain rfl := Option.some.inj ho
      have d4 : v 4 = .pointer (some ⟨w1.heap.size, 1, none⟩) := hall ⟨4, .data⟩ (by simp) rfl _ rfl
      refine gw rfl (g_cell70 _ (w1.heap.size) 1 ([.bool true, bb]) 72 _ (show v 4 = _ from d4) q_b (rfl) ?_)
      exact ⟨own_pd _ rfl rfl, hC, Below.refl _ _⟩
    · obtain rfl := Option.some.inj ho
      have d3 : v 3 = ba := hall ⟨3, .data⟩ (by simp) rfl _ rfl
      have d5 : v 5 = bb := hall ⟨5, .data⟩ (by simp) rfl _ rfl
      refine gw rfl (g_call 58 _ _ [ba, bb] (kf58 _ _) (by show ([v 3, v 5] : List Value) = _; rw [d3, d5]; (try rfl)) ((off_rs ba bb la lb n wx (da.below (hB.trans hC.1)) (db.below (hB.trans hC.1)) na nb hle hn).mono ?_))
      rintro e w' ⟨u_, rfl, hp, hb⟩
      exact ⟨_, rfl, own_pd _ rfl hp, ⟨hC.1.trans (hb.mono (Nat.le_trans hB0 hC.1.size)), q_a.below hb q_a.lt, q_b.below hb q_b.lt, ⟨x_9, y_9, p_9.below hb p_9.lt⟩⟩, hb⟩
    · obtain rfl := Option.some.inj ho
      have d1 : v 1 = .bool false := hall ⟨1, .data⟩ (by simp) rfl _ rfl
      have d6 : RS wx (v 6) (n) (2000) := hall ⟨6, .data⟩ (by simp) rfl _ rfl
      refine gw rfl (g_buildR _ _ false (v 6) d6.sl (show v 1 = _ from d1) rfl ?_)
      exact ⟨own_pd _ rfl ⟨v 6, rfl, d6⟩, hC, Below.refl _ _⟩
    · obtain rfl := Option.some.inj ho
      have d7 : RB wx (v 7) false (n) (2000) := hall ⟨7, .data⟩ (by simp) rfl _ rfl
      obtain ⟨b7_, e7_, r7_⟩ := d7
      refine gw rfl (g_call 55 _ _ [.agg #[.bool false, b7_]] (kf55 _ _) (by show ([v 7] : List Value) = _; rw [e7_]; (try rfl)) ((bare_rs false b7_ n 2000 z wx r7_ (by omega) hz).mono ?_))
      rintro e w' ⟨u_, rfl, hp, hb⟩
      exact ⟨_, rfl, own_pd _ rfl hp, ⟨hC.1.trans (hb.mono (Nat.le_trans hB0 hC.1.size)), q_a.below hb q_a.lt, q_b.below hb q_b.lt, ⟨x_9, y_9, p_9.below hb p_9.lt⟩⟩, hb⟩
    · obtain rfl := Option.some.inj ho
      have d8 : RN wx (v 8) (z) := hall ⟨8, .data⟩ (by simp) rfl _ rfl
      obtain ⟨s8, b8, e8, r8⟩ := d8
      refine gw rfl (g_store_all 72 _ _ (w2.heap.size) [.bool s8, b8] _ 72 rfl (show v 8 = _ from e8) p_9 szR rfl (one_rc _ _ r8.sl) (fun w' h1 h2 => ?_))
      exact ⟨own_pd _ rfl ⟨_, _, h2, r8.turn h1 p_9 (by decide)⟩, ⟨h1.below hC.1 l_r, h1.blk q_a (by omega), h1.blk q_b (by omega), ⟨_, _, h2⟩⟩, h1, _, p_9⟩
    · simp at ho
  · simp only [full, Act.put, List.setIfInBounds_toArray, List.set_cons_succ, List.set_cons_zero, Nat.zero_add, Nat.reduceAdd]
    intro v w4 hC hall
    have d0 : v 0 = .pointer (some ⟨w.heap.size, 0, none⟩) := hall 0 _ (by decide) rfl
    (try rw [d0])
    clear d0
    have d1 : v 1 = .bool false := hall 1 _ (by decide) rfl
    (try rw [d1])
    clear d1
    have d2 : v 2 = .pointer (some ⟨w.heap.size, 1, none⟩) := hall 2 _ (by decide) rfl
    (try rw [d2])
    clear d2
    have d3 : v 3 = ba := hall 3 _ (by decide) rfl
    (try rw [d3])
    clear d3
    have d4 : v 4 = .pointer (some ⟨w1.heap.size, 1, none⟩) := hall 4 _ (by decide) rfl
    (try rw [d4])
    clear d4
    have d5 : v 5 = bb := hall 5 _ (by decide) rfl
    (try rw [d5])
    clear d5
    generalize v 6 = y1_6
    generalize v 7 = y1_7
    generalize v 8 = y1_8
    obtain ⟨s_r1, v_r1, h_r, r_r1⟩ := (hall 9 _ (by decide) rfl : RA w4 (w2.heap.size) (z))
    clear hall
    obtain ⟨hC, h_a, h_b, -⟩ := hC
    replace b_a := h_a
    replace b_b := h_b
    replace b_r := h_r
    replace hB := hB.trans hC
    clear hC hB0
    go_wp2_with fail
    (try simp only [Exit.inBlock, Exit.then])
    exact bodyPost_ret (results_blk rfl _ _ _ rfl b_r Tryd.underlying72 rfl szR) rfl ⟨_, rfl, ⟨_, _, rfl, r_r1⟩, hB⟩

set_option maxRecDepth 10000 in
set_option maxHeartbeats 4000000 in
theorem add_01lt (ba bb : Value) (la lb : List Bool) (z : Int) (n : Nat) (w : World) (da : Rd w ba la) (db : Rd w bb lb) (na : la.length ≤ 2000) (nb : lb.length ≤ 2000) (R : Int) (hR : Hid (cmpN (val la) (val lb) = R)) (h0 : ¬ 0 ≤ R) (hle : val la ≤ val lb) (hn : Hid (val lb - val la = n)) (hz : Hid ((if true then -(n : Int) else n) = z)) :
    Calls Tryd.prog 33 #[.agg #[.bool false, ba], .agg #[.bool true, bb]] w fun e w' => ∃ u, e = .returned u ∧ RN w' u z ∧ Below w.heap.size w w' := by
  go_enter Tryd.func33, Tryd.ntmps33
  go_wp2_with (first
    | ((with_reducible refine at_boxD 2 72 ?_); refine L_box 72 _ ([.bool false, ba]) rfl ?_; intro w1 t_ b_a; have l_a : w.heap.size ≤ w.heap.size := Nat.le_refl _; have hB : Below w.heap.size w w1 := t_.below (Below.refl _ _) (Nat.le_refl _); clear t_)
    | ((with_reducible refine at_boxD 3 72 ?_); refine L_box 72 _ ([.bool true, bb]) rfl ?_; intro w2 t_ b_b; have l_b : w.heap.size ≤ w1.heap.size := hB.size; have o_b := b_a.lt; replace b_a := t_.blk b_a (by omega); replace hB := t_.below hB l_b; clear t_)
    | ((with_reducible refine at_allocD 4 72 ?_); refine L_alloc 72 ([.bool false, .slice none 0 0]) zeroR ?_; intro w3 t_ b_r; have l_r : w.heap.size ≤ w2.heap.size := hB.size; have o_r := b_b.lt; replace b_a := t_.blk b_a (by omega); replace b_b := t_.blk b_b (by omega); replace hB := t_.below hB l_r; clear t_)
    | ((with_reducible refine at_loadD 6 4 ?_); refine L_give (by rfl) (g_cell4 _ (w.heap.size) 0 ([.bool false, ba]) 72 (.bool false) rfl b_a (rfl) ?_))
    | ((with_reducible refine at_loadD 8 4 ?_); refine L_give (by rfl) (g_cell4 _ (w1.heap.size) 0 ([.bool true, bb]) 72 (.bool true) rfl b_b (rfl) ?_))
    | ((with_reducible refine at_loadD 20 70 ?_); refine L_give (by rfl) (g_cell70 _ (w.heap.size) 1 ([.bool false, ba]) 72 (ba) rfl b_a (rfl) ?_))
    | ((with_reducible refine at_loadD 22 70 ?_); refine L_give (by rfl) (g_cell70 _ (w1.heap.size) 1 ([.bool true, bb]) 72 (bb) rfl b_b (rfl) ?_)))
  refine (greater_any ba bb la lb w3 (da.below hB) (db.below hB) na nb R hR).mono ?_
  rintro e w4 ⟨rfl, hW_⟩
  rw [hW_]
  clear hW_ w4
  go_wp2_with (first
    | ((with_reducible refine at_binD 24 ?_); refine L_give (by rfl) (g_igeq 3 _ _ .i64 _ _ false rfl rfl (decide_eq_false (by omega)) ?_))
    | ((with_reducible refine stop_region 5 ?_); intro X1 hX1))
  refine hX1.out ?_
  clear hX1
  have hB0 := hB.size
  refine wp_region_pred (by kernel_rfl) (by kernel_rfl) [.eq (.pointer (some ⟨w1.heap.size, 0, none⟩)), .eq (.bool true), .eq (.pointer (some ⟨w1.heap.size, 1, none⟩)), .eq (bb), .eq (.pointer (some ⟨w.heap.size, 1, none⟩)), .eq (ba), .rs (n) (2000), .rb true (n) (2000), .rn (z), .at (w2.heap.size) (z)] ([none, none, none, none, none, none, none, none, none, some (w2.heap.size)]) (fun wx => Below w.heap.size w3 wx ∧ Blk wx (w.heap.size) ([.bool false, ba]) 72 ∧ Blk wx (w1.heap.size) ([.bool true, bb]) 72 ∧ (∃ x y, Blk wx (w2.heap.size) [x, y] 72)) ?_ ?_ ?_ ?_
  · exact nobs1 _ _ 9 rfl rfl
  · exact ⟨(Below.refl _ _).drew, b_a.drew, b_b.drew, ⟨_, _, b_r.drew⟩⟩
  · simp only [full, Act.put, List.setIfInBounds_toArray, List.set_cons_succ, List.set_cons_zero, Nat.zero_add, Nat.reduceAdd]
    intro i o ho v wx hC hall
    obtain ⟨hC1, q_a, q_b, ⟨x_9, y_9, p_9⟩⟩ := id hC
    rcases i with _ | _ | _ | _ | _ | _ | _ | _ | _ | _ | i
    · obtain rfl := Option.some.inj ho
      refine gw rfl (g_fieldR_0 _ _ rfl ?_)
      exact ⟨own_pd _ rfl rfl, hC, Below.refl _ _⟩
    · obtain rfl := Option.some.inj ho
      have d0 : v 0 = .pointer (some ⟨w1.heap.size, 0, none⟩) := hall ⟨0, .data⟩ (by simp) rfl _ rfl
      refine gw rfl (g_cell4 _ (w1.heap.size) 0 ([.bool true, bb]) 72 _ (show v 0 = _ from d0) q_b (rfl) ?_)
      exact ⟨own_pd _ rfl rfl, hC, Below.refl _ _⟩
    · obtain rfl := Option.some.inj ho
      refine gw rfl (g_fieldR_1 _ _ rfl ?_)
      exact ⟨own_pd _ rfl rfl, hC, Below.refl _ _⟩
    · obtain rfl := Option.some.inj ho
      have d2 : v 2 = .pointer (some ⟨w1.heap.size, 1, none⟩) := hall ⟨2, .data⟩ (by simp) rfl _ rfl
      refine gw rfl (g_cell70 _ (w1.heap.size) 1 ([.bool true, bb]) 72 _ (show v 2 = _ from d2) q_b (rfl) ?_)
      exact ⟨own_pd _ rfl rfl, hC, Below.refl _ _⟩
    · obtain rfl := Option.some.inj ho
      refine gw rfl (g_fieldR_1 _ _ rfl ?_)
      exact ⟨own_pd _ rfl rfl, hC, Below.refl _ _⟩
    · obtain rfl := Option.some.inj ho
      have d4 : v 4 = .pointer (some ⟨w.heap.size, 1, none⟩) := hall ⟨4, .data⟩ (by simp) rfl _ rfl
      refine gw rfl (g_cell70 _ (w.heap.size) 1 ([.bool false, ba]) 72 _ (show v 4 = _ from d4) q_a (rfl) ?_)
      exact ⟨own_pd _ rfl rfl, hC, Below.refl _ _⟩
    · obtain rfl := Option.some.inj ho
      have d3 : v 3 = bb := hall ⟨3, .data⟩ (by simp) rfl _ rfl
      have d5 : v 5 = ba := hall ⟨5, .data⟩ (by simp) rfl _ rfl
      refine gw rfl (g_call 58 _ _ [bb, ba] (kf58 _ _) (by show ([v 3, v 5] : List Value) = _; rw [d3, d5]; (try rfl)) ((off_rs bb ba lb la n wx (db.below (hB.trans hC.1)) (da.below (hB.trans hC.1)) nb na hle hn).mono ?_))
      rintro e w' ⟨u_, rfl, hp, hb⟩
      exact ⟨_, rfl, own_pd _ rfl hp, ⟨hC.1.trans (hb.mono (Nat.le_trans hB0 hC.1.size)), q_a.below hb q_a.lt, q_b.below hb q_b.lt, ⟨x_9, y_9, p_9.below hb p_9.lt⟩⟩, hb⟩
    · obtain rfl := Option.some.inj ho
      have d1 : v 1 = .bool true := hall ⟨1, .data⟩ (by simp) rfl _ rfl
      have d6 : RS wx (v 6) (n) (2000) := hall ⟨6, .data⟩ (by simp) rfl _ rfl
      refine gw rfl (g_buildR _ _ true (v 6) d6.sl (show v 1 = _ from d1) rfl ?_)
      exact ⟨own_pd _ rfl ⟨v 6, rfl, d6⟩, hC, Below.refl _ _⟩
    · obtain rfl := Option.some.inj ho
      have d7 : RB wx (v 7) true (n) (2000) := hall ⟨7, .data⟩ (by simp) rfl _ rfl
      obtain ⟨b7_, e7_, r7_⟩ := d7
      refine gw rfl (g_call 55 _ _ [.agg #[.bool true, b7_]] (kf55 _ _) (by show ([v 7] : List Value) = _; rw [e7_]; (try rfl)) ((bare_rs true b7_ n 2000 z wx r7_ (by omega) hz).mono ?_))
      rintro e w' ⟨u_, rfl, hp, hb⟩
      exact ⟨_, rfl, own_pd _ rfl hp, ⟨hC.1.trans (hb.mono (Nat.le_trans hB0 hC.1.size)), q_a.below hb q_a.lt, q_b.below hb q_b.lt, ⟨x_9, y_9, p_9.below hb p_9.lt⟩⟩, hb⟩
    · obtain rfl := Option.some.inj ho
      have d8 : RN wx (v 8) (z) := hall ⟨8, .data⟩ (by simp) rfl _ rfl
      obtain ⟨s8, b8, e8, r8⟩ := d8
      refine gw rfl (g_store_all 72 _ _ (w2.heap.size) [.bool s8, b8] _ 72 rfl (show v 8 = _ from e8) p_9 szR rfl (one_rc _ _ r8.sl) (fun w' h1 h2 => ?_))
      exact ⟨own_pd _ rfl ⟨_, _, h2, r8.turn h1 p_9 (by decide)⟩, ⟨h1.below hC.1 l_r, h1.blk q_a (by omega), h1.blk q_b (by omega), ⟨_, _, h2⟩⟩, h1, _, p_9⟩
    · simp at ho
  · simp only [full, Act.put, List.setIfInBounds_toArray, List.set_cons_succ, List.set_cons_zero, Nat.zero_add, Nat.reduceAdd]
    intro v w4 hC hall
    have d0 : v 0 = .pointer (some ⟨w1.heap.size, 0, none⟩) := hall 0 _ (by decide) rfl
    (try rw [d0])
    clear d0
    have d1 : v 1 = .bool true := hall 1 _ (by decide) rfl
    (try rw [d1])
    clear d1
    have d2 : v 2 = .pointer (some ⟨w1.heap.size, 1, none⟩) := hall 2 _ (by decide) rfl
    (try rw [d2])
    clear d2
    have d3 : v 3 = bb := hall 3 _ (by decide) rfl
    (try rw [d3])
    clear d3
    have d4 : v 4 = .pointer (some ⟨w.heap.size, 1, none⟩) := hall 4 _ (by decide) rfl
    (try rw [d4])
    clear d4
    have d5 : v 5 = ba := hall 5 _ (by decide) rfl
    (try rw [d5])
    clear d5
    generalize v 6 = y1_6
    generalize v 7 = y1_7
    generalize v 8 = y1_8
    obtain ⟨s_r1, v_r1, h_r, r_r1⟩ := (hall 9 _ (by decide) rfl : RA w4 (w2.heap.size) (z))
    clear hall
    obtain ⟨hC, h_a, h_b, -⟩ := hC
    replace b_a := h_a
    replace b_b := h_b
    replace b_r := h_r
    replace hB := hB.trans hC
    clear hC hB0
    go_wp2_with fail
    (try simp only [Exit.inBlock, Exit.then])
    exact bodyPost_ret (results_blk rfl _ _ _ rfl b_r Tryd.underlying72 rfl szR) rfl ⟨_, rfl, ⟨_, _, rfl, r_r1⟩, hB⟩

set_option maxRecDepth 10000 in
set_option maxHeartbeats 4000000 in
theorem add_10ge (ba bb : Value) (la lb : List Bool) (z : Int) (n : Nat) (w : World) (da : Rd w ba la) (db : Rd w bb lb) (na : la.length ≤ 2000) (nb : lb.length ≤ 2000) (R : Int) (hR : Hid (cmpN (val la) (val lb) = R)) (h0 : 0 ≤ R) (hle : val lb ≤ val la) (hn : Hid (val la - val lb = n)) (hz : Hid ((if true then -(n : Int) else n) = z)) :
    Calls Tryd.prog 33 #[.agg #[.bool true, ba], .agg #[.bool false, bb]] w fun e w' => ∃ u, e = .returned u ∧ RN w' u z ∧ Below w.heap.size w w' := by
  go_enter Tryd.func33, Tryd.ntmps33
  go_wp2_with (first
    | ((with_reducible refine at_boxD 2 72 ?_); refine L_box 72 _ ([.bool true, ba]) rfl ?_; intro w1 t_ b_a; have l_a : w.heap.size ≤ w.heap.size := Nat.le_refl _; have hB : Below w.heap.size w w1 := t_.below (Below.refl _ _) (Nat.le_refl _); clear t_)
    | ((with_reducible refine at_boxD 3 72 ?_); refine L_box 72 _ ([.bool false, bb]) rfl ?_; intro w2 t_ b_b; have l_b : w.heap.size ≤ w1.heap.size := hB.size; have o_b := b_a.lt; replace b_a := t_.blk b_a (by omega); replace hB := t_.below hB l_b; clear t_)
    | ((with_reducible refine at_allocD 4 72 ?_); refine L_alloc 72 ([.bool false, .slice none 0 0]) zeroR ?_; intro w3 t_ b_r; have l_r : w.heap.size ≤ w2.heap.size := hB.size; have o_r := b_b.lt; replace b_a := t_.blk b_a (by omega); replace b_b := t_.blk b_b (by omega); replace hB := t_.below hB l_r; clear t_)
    | ((with_reducible refine at_loadD 6 4 ?_); refine L_give (by rfl) (g_cell4 _ (w.heap.size) 0 ([.bool true, ba]) 72 (.bool true) rfl b_a (rfl) ?_))
    | ((with_reducible refine at_loadD 8 4 ?_); refine L_give (by rfl) (g_cell4 _ (w1.heap.size) 0 ([.bool false, bb]) 72 (.bool false) rfl b_b (rfl) ?_))
    | ((with_reducible refine at_loadD 20 70 ?_); refine L_give (by rfl) (g_cell70 _ (w.heap.size) 1 ([.bool true, ba]) 72 (ba) rfl b_a (rfl) ?_))
    | ((with_reducible refine at_loadD 22 70 ?_); refine L_give (by rfl) (g_cell70 _ (w1.heap.size) 1 ([.bool false, bb]) 72 (bb) rfl b_b (rfl) ?_)))
  refine (greater_any ba bb la lb w3 (da.below hB) (db.below hB) na nb R hR).mono ?_
  rintro e w4 ⟨rfl, hW_⟩
  rw [hW_]
  clear hW_ w4
  go_wp2_with (first
    | ((with_reducible refine at_binD 24 ?_); refine L_give (by rfl) (g_igeq 3 _ _ .i64 _ _ true rfl rfl (decide_eq_true (by omega)) ?_))
    | ((with_reducible refine stop_region 4 ?_); intro X1 hX1))
  refine hX1.out ?_
  clear hX1
  have hB0 := hB.size
  refine wp_region_pred (by kernel_rfl) (by kernel_rfl) [.eq (.pointer (some ⟨w.heap.size, 0, none⟩)), .eq (.bool true), .eq (.pointer (some ⟨w.heap.size, 1, none⟩)), .eq (ba), .eq (.pointer (some ⟨w1.heap.size, 1, none⟩)), .eq (bb), .rs (n) (2000), .rb true (n) (2000), .rn (z), .at (w2.heap.size) (z)] ([none, none, none, none, none, none, none, none, none, some (w2.heap.size)]) (fun wx => Below w.heap.size w3 wx ∧ Blk wx (w.heap.size) ([.bool true, ba]) 72 ∧ Blk wx (w1.heap.size) ([.bool false, bb]) 72 ∧ (∃ x y, Blk wx (w2.heap.size) [x, y] 72)) ?_ ?_ ?_ ?_
  · exact nobs1 _ _ 9 rfl rfl
  · exact ⟨(Below.refl _ _).drew, b_a.drew, b_b.drew, ⟨_, _, b_r.drew⟩⟩
  · simp only [full, Act.put, List.setIfInBounds_toArray, List.set_cons_succ, List.set_cons_zero, Nat.zero_add, Nat.reduceAdd]
    intro i o ho v wx hC hall
    obtain ⟨hC1, q_a, q_b, ⟨x_9, y_9, p_9⟩⟩ := id hC
    rcases i with _ | _ | _ | _ | _ | _ | _ | _ | _ | _ | i
    · obtain rfl := Option.some.inj ho
      refine gw rfl (g_fieldR_0 _ _ rfl ?_)
      exact ⟨own_pd _ rfl rfl, hC, Below.refl _ _⟩
    · obtain rfl := Option.some.inj ho
      have d0 : v 0 = .pointer (some ⟨w.heap.size, 0, none⟩) := hall ⟨0, .data⟩ (by simp) rfl _ rfl
      refine gw rfl (g_cell4 _ (w.heap.size) 0 ([.bool true, ba]) 72 _ (show v 0 = _ from d0) q_a (rfl) ?_)
      exact ⟨own_pd _ rfl rfl, hC, Below.refl _ _⟩
    · obtain rfl := Option.some.inj ho
      refine gw rfl (g_fieldR_1 _ _ rfl ?_)
      exact ⟨own_pd _ rfl rfl, hC, Below.refl _ _⟩
    · obtain rfl := Option.some.inj ho
      have d2 : v 2 = .pointer (some ⟨w.heap.size, 1, none⟩) := hall ⟨2, .data⟩ (by simp) rfl _ rfl
      refine gw rfl (g_cell70 _ (w.heap.size) 1 ([.bool true, ba]) 72 _ (show v 2 = _ from d2) q_a (rfl) ?_)
      exact ⟨own_pd _ rfl rfl, hC, Below.refl _ _⟩
    · obtain rfl := Option.some.inj ho
      refine gw rfl (g_fieldR_1 _ _ rfl ?_)
      exact ⟨own_pd _ rfl rfl, hC, Below.refl _ _⟩
    · obtain rfl := Option.some.inj ho
      have d4 : v 4 = .pointer (some ⟨w1.heap.size, 1, none⟩) := hall ⟨4, .data⟩ (by simp) rfl _ rfl
      refine gw rfl (g_cell70 _ (w1.heap.size) 1 ([.bool false, bb]) 72 _ (show v 4 = _ from d4) q_b (rfl) ?_)
      exact ⟨own_pd _ rfl rfl, hC, Below.refl _ _⟩
    · obtain rfl := Option.some.inj ho
      have d3 : v 3 = ba := hall ⟨3, .data⟩ (by simp) rfl _ rfl
      have d5 : v 5 = bb := hall ⟨5, .data⟩ (by simp) rfl _ rfl
      refine gw rfl (g_call 58 _ _ [ba, bb] (kf58 _ _) (by show ([v 3, v 5] : List Value) = _; rw [d3, d5]; (try rfl)) ((off_rs ba bb la lb n wx (da.below (hB.trans hC.1)) (db.below (hB.trans hC.1)) na nb hle hn).mono ?_))
      rintro e w' ⟨u_, rfl, hp, hb⟩
      exact ⟨_, rfl, own_pd _ rfl hp, ⟨hC.1.trans (hb.mono (Nat.le_trans hB0 hC.1.size)), q_a.below hb q_a.lt, q_b.below hb q_b.lt, ⟨x_9, y_9, p_9.below hb p_9.lt⟩⟩, hb⟩
    · obtain rfl := Option.some.inj ho
      have d1 : v 1 = .bool true := hall ⟨1, .data⟩ (by simp) rfl _ rfl
      have d6 : RS wx (v 6) (n) (2000) := hall ⟨6, .data⟩ (by simp) rfl _ rfl
      refine gw rfl (g_buildR _ _ true (v 6) d6.sl (show v 1 = _ from d1) rfl ?_)
      exact ⟨own_pd _ rfl ⟨v 6, rfl, d6⟩, hC, Below.refl _ _⟩
    · obtain rfl := Option.some.inj ho
      have d7 : RB wx (v 7) true (n) (2000) := hall ⟨7, .data⟩ (by simp) rfl _ rfl
      obtain ⟨b7_, e7_, r7_⟩ := d7
      refine gw rfl (g_call 55 _ _ [.agg #[.bool true, b7_]] (kf55 _ _) (by show ([v 7] : List Value) = _; rw [e7_]; (try rfl)) ((bare_rs true b7_ n 2000 z wx r7_ (by omega) hz).mono ?_))
      rintro e w' ⟨u_, rfl, hp, hb⟩
      exact ⟨_, rfl, own_pd _ rfl hp, ⟨hC.1.trans (hb.mono (Nat.le_trans hB0 hC.1.size)), q_a.below hb q_a.lt, q_b.below hb q_b.lt, ⟨x_9, y_9, p_9.below hb p_9.lt⟩⟩, hb⟩
    · obtain rfl := Option.some.inj ho
      have d8 : RN wx (v 8) (z) := hall ⟨8, .data⟩ (by simp) rfl _ rfl
      obtain ⟨s8, b8, e8, r8⟩ := d8
      refine gw rfl (g_store_all 72 _ _ (w2.heap.size) [.bool s8, b8] _ 72 rfl (show v 8 = _ from e8) p_9 szR rfl (one_rc _ _ r8.sl) (fun w' h1 h2 => ?_))
      exact ⟨own_pd _ rfl ⟨_, _, h2, r8.turn h1 p_9 (by decide)⟩, ⟨h1.below hC.1 l_r, h1.blk q_a (by omega), h1.blk q_b (by omega), ⟨_, _, h2⟩⟩, h1, _, p_9⟩
    · simp at ho
  · simp only [full, Act.put, List.setIfInBounds_toArray, List.set_cons_succ, List.set_cons_zero, Nat.zero_add, Nat.reduceAdd]
    intro v w4 hC hall
    have d0 : v 0 = .pointer (some ⟨w.heap.size, 0, none⟩) := hall 0 _ (by decide) rfl
    (try rw [d0])
    clear d0
    have d1 : v 1 = .bool true := hall 1 _ (by decide) rfl
    (try rw [d1])
    clear d1
    have d2 : v 2 = .pointer (some ⟨w.heap.size, 1, none⟩) := hall 2 _ (by decide) rfl
    (try rw [d2])
    clear d2
    have d3 : v 3 = ba := hall 3 _ (by decide) rfl
    (try rw [d3])
    clear d3
    have d4 : v 4 = .pointer (some ⟨w1.heap.size, 1, none⟩) := hall 4 _ (by decide) rfl
    (try rw [d4])
    clear d4
    have d5 : v 5 = bb := hall 5 _ (by decide) rfl
    (try rw [d5])
    clear d5
    generalize v 6 = y1_6
    generalize v 7 = y1_7
    generalize v 8 = y1_8
    obtain ⟨s_r1, v_r1, h_r, r_r1⟩ := (hall 9 _ (by decide) rfl : RA w4 (w2.heap.size) (z))
    clear hall
    obtain ⟨hC, h_a, h_b, -⟩ := hC
    replace b_a := h_a
    replace b_b := h_b
    replace b_r := h_r
    replace hB := hB.trans hC
    clear hC hB0
    go_wp2_with fail
    (try simp only [Exit.inBlock, Exit.then])
    exact bodyPost_ret (results_blk rfl _ _ _ rfl b_r Tryd.underlying72 rfl szR) rfl ⟨_, rfl, ⟨_, _, rfl, r_r1⟩, hB⟩

set_option maxRecDepth 10000 in
set_option maxHeartbeats 4000000 in
theorem add_10lt (ba bb : Value) (la lb : List Bool) (z : Int) (n : Nat) (w : World) (da : Rd w ba la) (db : Rd w bb lb) (na : la.length ≤ 2000) (nb : lb.length ≤ 2000) (R : Int) (hR : Hid (cmpN (val la) (val lb) = R)) (h0 : ¬ 0 ≤ R) (hle : val la ≤ val lb) (hn : Hid (val lb - val la = n)) (hz : Hid ((if false then -(n : Int) else n) = z)) :
    Calls Tryd.prog 33 #[.agg #[.bool true, ba], .agg #[.bool false, bb]] w fun e w' => ∃ u, e = .returned u ∧ RN w' u z ∧ Below w.heap.size w w' := by
  go_enter Tryd.func33, Tryd.ntmps33
  go_wp2_with (first
    | ((with_reducible refine at_boxD 2 72 ?_); refine L_box 72 _ ([.bool true, ba]) rfl ?_; intro w1 t_ b_a; have l_a : w.heap.size ≤ w.heap.size := Nat.le_refl _; have hB : Below w.heap.size w w1 := t_.below (Below.refl _ _) (Nat.le_refl _); clear t_)
    | ((with_reducible refine at_boxD 3 72 ?_); refine L_box 72 _ ([.bool false, bb]) rfl ?_; intro w2 t_ b_b; have l_b : w.heap.size ≤ w1.heap.size := hB.size; have o_b := b_a.lt; replace b_a := t_.blk b_a (by omega); replace hB := t_.below hB l_b; clear t_)
    | ((with_reducible refine at_allocD 4 72 ?_); refine L_alloc 72 ([.bool false, .slice none 0 0]) zeroR ?_; intro w3 t_ b_r; have l_r : w.heap.size ≤ w2.heap.size := hB.size; have o_r := b_b.lt; replace b_a := t_.blk b_a (by omega); replace b_b := t_.blk b_b (by omega); replace hB := t_.below hB l_r; clear t_)
    | ((with_reducible refine at_loadD 6 4 ?_); refine L_give (by rfl) (g_cell4 _ (w.heap.size) 0 ([.bool true, ba]) 72 (.bool true) rfl b_a (rfl) ?_))
    | ((with_reducible refine at_loadD 8 4 ?_); refine L_give (by rfl) (g_cell4 _ (w1.heap.size) 0 ([.bool false, bb]) 72 (.bool false) rfl b_b (rfl) ?_))
    | ((with_reducible refine at_loadD 20 70 ?_); refine L_give (by rfl) (g_cell70 _ (w.heap.size) 1 ([.bool true, ba]) 72 (ba) rfl b_a (rfl) ?_))
    | ((with_reducible refine at_loadD 22 70 ?_); refine L_give (by rfl) (g_cell70 _ (w1.heap.size) 1 ([.bool false, bb]) 72 (bb) rfl b_b (rfl) ?_)))
  refine (greater_any ba bb la lb w3 (da.below hB) (db.below hB) na nb R hR).mono ?_
  rintro e w4 ⟨rfl, hW_⟩
  rw [hW_]
  clear hW_ w4
  go_wp2_with (first
    | ((with_reducible refine at_binD 24 ?_); refine L_give (by rfl) (g_igeq 3 _ _ .i64 _ _ false rfl rfl (decide_eq_false (by omega)) ?_))
    | ((with_reducible refine stop_region 5 ?_); intro X1 hX1))
  refine hX1.out ?_
  clear hX1
  have hB0 := hB.size
  refine wp_region_pred (by kernel_rfl) (by kernel_rfl) [.eq (.pointer (some ⟨w1.heap.size, 0, none⟩)), .eq (.bool false), .eq (.pointer (some ⟨w1.heap.size, 1, none⟩)), .eq (bb), .eq (.pointer (some ⟨w.heap.size, 1, none⟩)), .eq (ba), .rs (n) (2000), .rb false (n) (2000), .rn (z), .at (w2.heap.size) (z)] ([none, none, none, none, none, none, none, none, none, some (w2.heap.size)]) (fun wx => Below w.heap.size w3 wx ∧ Blk wx (w.heap.size) ([.bool true, ba]) 72 ∧ Blk wx (w1.heap.size) ([.bool false, bb]) 72 ∧ (∃ x y, Blk wx (w2.heap.size) [x, y] 72)) ?_ ?_ ?_ ?_
  · exact nobs1 _ _ 9 rfl rfl
  · exact ⟨(Below.refl _ _).drew, b_a.drew, b_b.drew, ⟨_, _, b_r.drew⟩⟩
  · simp only [full, Act.put, List.setIfInBounds_toArray, List.set_cons_succ, List.set_cons_zero, Nat.zero_add, Nat.reduceAdd]
    intro i o ho v wx hC hall
    obtain ⟨hC1, q_a, q_b, ⟨x_9, y_9, p_9⟩⟩ := id hC
    rcases i with _ | _ | _ | _ | _ | _ | _ | _ | _ | _ | i
    · obtain rfl := Option.some.inj ho
      refine gw rfl (g_fieldR_0 _ _ rfl ?_)
      exact ⟨own_pd _ rfl rfl, hC, Below.refl _ _⟩
    · obtain rfl := Option.some.inj ho
      have d0 : v 0 = .pointer (some ⟨w1.heap.size, 0, none⟩) := hall ⟨0, .data⟩ (by simp) rfl _ rfl
      refine gw rfl (g_cell4 _ (w1.heap.size) 0 ([.bool false, bb]) 72 _ (show v 0 = _ from d0) q_b (rfl) ?_)
      exact ⟨own_pd _ rfl rfl, hC, Below.refl _ _⟩
    · obtain rfl := Option.some.inj ho
      refine gw rfl (g_fieldR_1 _ _ rfl ?_)
      exact ⟨own_pd _ rfl rfl, hC, Below.refl _ _⟩
    · obtain rfl := Option.some.inj ho
      have d2 : v 2 = .pointer (some ⟨w1.heap.size, 1, none⟩) := hall ⟨2, .data⟩ (by simp) rfl _ rfl
      refine gw rfl (g_cell70 _ (w1.heap.size) 1 ([.bool false, bb]) 72 _ (show v 2 = _ from d2) q_b (rfl) ?_)
      exact ⟨own_pd _ rfl rfl, hC, Below.refl _ _⟩
    · obtain rfl := Option.some.inj ho
      refine gw rfl (g_fieldR_1 _ _ rfl ?_)
      exact ⟨own_pd _ rfl rfl, hC, Below.refl _ _⟩
    · obtain rfl := Option.some.inj ho
      have d4 : v 4 = .pointer (some ⟨w.heap.size, 1, none⟩) := hall ⟨4, .data⟩ (by simp) rfl _ rfl
      refine gw rfl (g_cell70 _ (w.heap.size) 1 ([.bool true, ba]) 72 _ (show v 4 = _ from d4) q_a (rfl) ?_)
      exact ⟨own_pd _ rfl rfl, hC, Below.refl _ _⟩
    · obtain rfl := Option.some.inj ho
      have d3 : v 3 = bb := hall ⟨3, .data⟩ (by simp) rfl _ rfl
      have d5 : v 5 = ba := hall ⟨5, .data⟩ (by simp) rfl _ rfl
      refine gw rfl (g_call 58 _ _ [bb, ba] (kf58 _ _) (by show ([v 3, v 5] : List Value) = _; rw [d3, d5]; (try rfl)) ((off_rs bb ba lb la n wx (db.below (hB.trans hC.1)) (da.below (hB.trans hC.1)) nb na hle hn).mono ?_))
      rintro e w' ⟨u_, rfl, hp, hb⟩
      exact ⟨_, rfl, own_pd _ rfl hp, ⟨hC.1.trans (hb.mono (Nat.le_trans hB0 hC.1.size)), q_a.below hb q_a.lt, q_b.below hb q_b.lt, ⟨x_9, y_9, p_9.below hb p_9.lt⟩⟩, hb⟩
    · obtain rfl := Option.some.inj ho
      have d1 : v 1 = .bool false := hall ⟨1, .data⟩ (by simp) rfl _ rfl
      have d6 : RS wx (v 6) (n) (2000) := hall ⟨6, .data⟩ (by simp) rfl _ rfl
      refine gw rfl (g_buildR _ _ false (v 6) d6.sl (show v 1 = _ from d1) rfl ?_)
      exact ⟨own_pd _ rfl ⟨v 6, rfl, d6⟩, hC, Below.refl _ _⟩
    · obtain rfl := Option.some.inj ho
      have d7 : RB wx (v 7) false (n) (2000) := hall ⟨7, .data⟩ (by simp) rfl _ rfl
      obtain ⟨b7_, e7_, r7_⟩ := d7
      refine gw rfl (g_call 55 _ _ [.agg #[.bool false, b7_]] (kf55 _ _) (by show ([v 7] : List Value) = _; rw [e7_]; (try rfl)) ((bare_rs false b7_ n 2000 z wx r7_ (by omega) hz).mono ?_))
      rintro e w' ⟨u_, rfl, hp, hb⟩
      exact ⟨_, rfl, own_pd _ rfl hp, ⟨hC.1.trans (hb.mono (Nat.le_trans hB0 hC.1.size)), q_a.below hb q_a.lt, q_b.below hb q_b.lt, ⟨x_9, y_9, p_9.below hb p_9.lt⟩⟩, hb⟩
    · obtain rfl := Option.some.inj ho
      have d8 : RN wx (v 8) (z) := hall ⟨8, .data⟩ (by simp) rfl _ rfl
      obtain ⟨s8, b8, e8, r8⟩ := d8
      refine gw rfl (g_store_all 72 _ _ (w2.heap.size) [.bool s8, b8] _ 72 rfl (show v 8 = _ from e8) p_9 szR rfl (one_rc _ _ r8.sl) (fun w' h1 h2 => ?_))
      exact ⟨own_pd _ rfl ⟨_, _, h2, r8.turn h1 p_9 (by decide)⟩, ⟨h1.below hC.1 l_r, h1.blk q_a (by omega), h1.blk q_b (by omega), ⟨_, _, h2⟩⟩, h1, _, p_9⟩
    · simp at ho
  · simp only [full, Act.put, List.setIfInBounds_toArray, List.set_cons_succ, List.set_cons_zero, Nat.zero_add, Nat.reduceAdd]
    intro v w4 hC hall
    have d0 : v 0 = .pointer (some ⟨w1.heap.size, 0, none⟩) := hall 0 _ (by decide) rfl
    (try rw [d0])
    clear d0
    have d1 : v 1 = .bool false := hall 1 _ (by decide) rfl
    (try rw [d1])
    clear d1
    have d2 : v 2 = .pointer (some ⟨w1.heap.size, 1, none⟩) := hall 2 _ (by decide) rfl
    (try rw [d2])
    clear d2
    have d3 : v 3 = bb := hall 3 _ (by decide) rfl
    (try rw [d3])
    clear d3
    have d4 : v 4 = .pointer (some ⟨w.heap.size, 1, none⟩) := hall 4 _ (by decide) rfl
    (try rw [d4])
    clear d4
    have d5 : v 5 = ba := hall 5 _ (by decide) rfl
    (try rw [d5])
    clear d5
    generalize v 6 = y1_6
    generalize v 7 = y1_7
    generalize v 8 = y1_8
    obtain ⟨s_r1, v_r1, h_r, r_r1⟩ := (hall 9 _ (by decide) rfl : RA w4 (w2.heap.size) (z))
    clear hall
    obtain ⟨hC, h_a, h_b, -⟩ := hC
    replace b_a := h_a
    replace b_b := h_b
    replace b_r := h_r
    replace hB := hB.trans hC
    clear hC hB0
    go_wp2_with fail
    (try simp only [Exit.inBlock, Exit.then])
    exact bodyPost_ret (results_blk rfl _ _ _ rfl b_r Tryd.underlying72 rfl szR) rfl ⟨_, rfl, ⟨_, _, rfl, r_r1⟩, hB⟩

set_option maxRecDepth 10000 in
set_option maxHeartbeats 4000000 in
theorem add_11 (ba bb : Value) (la lb : List Bool) (z : Int) (n : Nat) (w : World) (da : Rd w ba la) (db : Rd w bb lb) (na : la.length ≤ 2000) (nb : lb.length ≤ 2000) (hn : Hid (val la + val lb = n)) (hz : Hid ((if true then -(n : Int) else n) = z)) :
    Calls Tryd.prog 33 #[.agg #[.bool true, ba], .agg #[.bool true, bb]] w fun e w' => ∃ u, e = .returned u ∧ RN w' u z ∧ Below w.heap.size w w' := by
  go_enter Tryd.func33, Tryd.ntmps33
  go_wp2_with (first
    | ((with_reducible refine at_boxD 2 72 ?_); refine L_box 72 _ ([.bool true, ba]) rfl ?_; intro w1 t_ b_a; have l_a : w.heap.size ≤ w.heap.size := Nat.le_refl _; have hB : Below w.heap.size w w1 := t_.below (Below.refl _ _) (Nat.le_refl _); clear t_)
    | ((with_reducible refine at_boxD 3 72 ?_); refine L_box 72 _ ([.bool true, bb]) rfl ?_; intro w2 t_ b_b; have l_b : w.heap.size ≤ w1.heap.size := hB.size; have o_b := b_a.lt; replace b_a := t_.blk b_a (by omega); replace hB := t_.below hB l_b; clear t_)
    | ((with_reducible refine at_allocD 4 72 ?_); refine L_alloc 72 ([.bool false, .slice none 0 0]) zeroR ?_; intro w3 t_ b_r; have l_r : w.heap.size ≤ w2.heap.size := hB.size; have o_r := b_b.lt; replace b_a := t_.blk b_a (by omega); replace b_b := t_.blk b_b (by omega); replace hB := t_.below hB l_r; clear t_)
    | ((with_reducible refine at_loadD 6 4 ?_); refine L_give (by rfl) (g_cell4 _ (w.heap.size) 0 ([.bool true, ba]) 72 (.bool true) rfl b_a (rfl) ?_))
    | ((with_reducible refine at_loadD 8 4 ?_); refine L_give (by rfl) (g_cell4 _ (w1.heap.size) 0 ([.bool true, bb]) 72 (.bool true) rfl b_b (rfl) ?_))
    | ((with_reducible refine stop_region 2 ?_); intro X1 hX1))
  refine hX1.out ?_
  clear hX1
  have hB0 := hB.size
  refine wp_region_pred (by kernel_rfl) (by kernel_rfl) [.eq (.pointer (some ⟨w.heap.size, 0, none⟩)), .eq (.bool true), .eq (.pointer (some ⟨w.heap.size, 1, none⟩)), .eq (ba), .eq (.pointer (some ⟨w1.heap.size, 1, none⟩)), .eq (bb), .rs (n) (2001), .rb true (n) (2001), .rn (z), .at (w2.heap.size) (z)] ([none, none, none, none, none, none, none, none, none, some (w2.heap.size)]) (fun wx => Below w.heap.size w3 wx ∧ Blk wx (w.heap.size) ([.bool true, ba]) 72 ∧ Blk wx (w1.heap.size) ([.bool true, bb]) 72 ∧ (∃ x y, Blk wx (w2.heap.size) [x, y] 72)) ?_ ?_ ?_ ?_
  · exact nobs1 _ _ 9 rfl rfl
  · exact ⟨(Below.refl _ _).drew, b_a.drew, b_b.drew, ⟨_, _, b_r.drew⟩⟩
  · simp only [full, Act.put, List.setIfInBounds_toArray, List.set_cons_succ, List.set_cons_zero, Nat.zero_add, Nat.reduceAdd]
    intro i o ho v wx hC hall
    obtain ⟨hC1, q_a, q_b, ⟨x_9, y_9, p_9⟩⟩ := id hC
    rcases i with _ | _ | _ | _ | _ | _ | _ | _ | _ | _ | i
    · obtain rfl := Option.some.inj ho
      refine gw rfl (g_fieldR_0 _ _ rfl ?_)
      exact ⟨own_pd _ rfl rfl, hC, Below.refl _ _⟩
    · obtain rfl := Option.some.inj ho
      have d0 : v 0 = .pointer (some ⟨w.heap.size, 0, none⟩) := hall ⟨0, .data⟩ (by simp) rfl _ rfl
      refine gw rfl (g_cell4 _ (w.heap.size) 0 ([.bool true, ba]) 72 _ (show v 0 = _ from d0) q_a (rfl) ?_)
      exact ⟨own_pd _ rfl rfl, hC, Below.refl _ _⟩
    · obtain rfl := Option.some.inj ho
      refine gw rfl (g_fieldR_1 _ _ rfl ?_)
      exact ⟨own_pd _ rfl rfl, hC, Below.refl _ _⟩
    · obtain rfl := Option.some.inj ho
      have d2 : v 2 = .pointer (some ⟨w.heap.size, 1, none⟩) := hall ⟨2, .data⟩ (by simp) rfl _ rfl
      refine gw rfl (g_cell70 _ (w.heap.size) 1 ([.bool true, ba]) 72 _ (show v 2 = _ from d2) q_a (rfl) ?_)
      exact ⟨own_pd _ rfl rfl, hC, Below.refl _ _⟩
    · obtain rfl := Option.some.inj ho
      refine gw rfl (g_fieldR_1 _ _ rfl ?_)
      exact ⟨own_pd _ rfl rfl, hC, Below.refl _ _⟩
    · obtain rfl := Option.some.inj ho
      have d4 : v 4 = .pointer (some ⟨w1.heap.size, 1, none⟩) := hall ⟨4, .data⟩ (by simp) rfl _ rfl
      refine gw rfl (g_cell70 _ (w1.heap.size) 1 ([.bool true, bb]) 72 _ (show v 4 = _ from d4) q_b (rfl) ?_)
      exact ⟨own_pd _ rfl rfl, hC, Below.refl _ _⟩
    · obtain rfl := Option.some.inj ho
      have d3 : v 3 = ba := hall ⟨3, .data⟩ (by simp) rfl _ rfl
      have d5 : v 5 = bb := hall ⟨5, .data⟩ (by simp) rfl _ rfl
      refine gw rfl (g_call 56 _ _ [ba, bb] (kf56 _ _) (by show ([v 3, v 5] : List Value) = _; rw [d3, d5]; (try rfl)) ((sum_rs ba bb la lb n wx (da.below (hB.trans hC.1)) (db.below (hB.trans hC.1)) na nb hn).mono ?_))
      rintro e w' ⟨u_, rfl, hp, hb⟩
      exact ⟨_, rfl, own_pd _ rfl hp, ⟨hC.1.trans (hb.mono (Nat.le_trans hB0 hC.1.size)), q_a.below hb q_a.lt, q_b.below hb q_b.lt, ⟨x_9, y_9, p_9.below hb p_9.lt⟩⟩, hb⟩
    · obtain rfl := Option.some.inj ho
      have d1 : v 1 = .bool true := hall ⟨1, .data⟩ (by simp) rfl _ rfl
      have d6 : RS wx (v 6) (n) (2001) := hall ⟨6, .data⟩ (by simp) rfl _ rfl
      refine gw rfl (g_buildR _ _ true (v 6) d6.sl (show v 1 = _ from d1) rfl ?_)
      exact ⟨own_pd _ rfl ⟨v 6, rfl, d6⟩, hC, Below.refl _ _⟩
    · obtain rfl := Option.some.inj ho
      have d7 : RB wx (v 7) true (n) (2001) := hall ⟨7, .data⟩ (by simp) rfl _ rfl
      obtain ⟨b7_, e7_, r7_⟩ := d7
      refine gw rfl (g_call 55 _ _ [.agg #[.bool true, b7_]] (kf55 _ _) (by show ([v 7] : List Value) = _; rw [e7_]; (try rfl)) ((bare_rs true b7_ n 2001 z wx r7_ (by omega) hz).mono ?_))
      rintro e w' ⟨u_, rfl, hp, hb⟩
      exact ⟨_, rfl, own_pd _ rfl hp, ⟨hC.1.trans (hb.mono (Nat.le_trans hB0 hC.1.size)), q_a.below hb q_a.lt, q_b.below hb q_b.lt, ⟨x_9, y_9, p_9.below hb p_9.lt⟩⟩, hb⟩
    · obtain rfl := Option.some.inj ho
      have d8 : RN wx (v 8) (z) := hall ⟨8, .data⟩ (by simp) rfl _ rfl
      obtain ⟨s8, b8, e8, r8⟩ := d8
      refine gw rfl (g_store_all 72 _ _ (w2.heap.size) [.bool s8, b8] _ 72 rfl (show v 8 = _ from e8) p_9 szR rfl (one_rc _ _ r8.sl) (fun w' h1 h2 => ?_))
      exact ⟨own_pd _ rfl ⟨_, _, h2, r8.turn h1 p_9 (by decide)⟩, ⟨h1.below hC.1 l_r, h1.blk q_a (by omega), h1.blk q_b (by omega), ⟨_, _, h2⟩⟩, h1, _, p_9⟩
    · simp at ho
  · simp only [full, Act.put, List.setIfInBounds_toArray, List.set_cons_succ, List.set_cons_zero, Nat.zero_add, Nat.reduceAdd]
    intro v w4 hC hall
    have d0 : v 0 = .pointer (some ⟨w.heap.size, 0, none⟩) := hall 0 _ (by decide) rfl
    (try rw [d0])
    clear d0
    have d1 : v 1 = .bool true := hall 1 _ (by decide) rfl
    (try rw [d1])
    clear d1
    have d2 : v 2 = .pointer (some ⟨w.heap.size, 1, none⟩) := hall 2 _ (by decide) rfl
    (try rw [d2])
    clear d2
    have d3 : v 3 = ba := hall 3 _ (by decide) rfl
    (try rw [d3])
    clear d3
    have d4 : v 4 = .pointer (some ⟨w1.heap.size, 1, none⟩) := hall 4 _ (by decide) rfl
    (try rw [d4])
    clear d4
    have d5 : v 5 = bb := hall 5 _ (by decide) rfl
    (try rw [d5])
    clear d5
    generalize v 6 = y1_6
    generalize v 7 = y1_7
    generalize v 8 = y1_8
    obtain ⟨s_r1, v_r1, h_r, r_r1⟩ := (hall 9 _ (by decide) rfl : RA w4 (w2.heap.size) (z))
    clear hall
    obtain ⟨hC, h_a, h_b, -⟩ := hC
    replace b_a := h_a
    replace b_b := h_b
    replace b_r := h_r
    replace hB := hB.trans hC
    clear hC hB0
    go_wp2_with fail
    (try simp only [Exit.inBlock, Exit.then])
    exact bodyPost_ret (results_blk rfl _ _ _ rfl b_r Tryd.underlying72 rfl szR) rfl ⟨_, rfl, ⟨_, _, rfl, r_r1⟩, hB⟩

theorem radd_any (u v : Value) (y z s : Int) (w : World) (hu : RN w u y) (hv : RN w v z) (fy : Few y 200) (fz : Few z 200) (hs : Hid (y + z = s)) :
    Calls Tryd.prog 33 #[u, v] w fun e w' => ∃ u, e = .returned u ∧ RN w' u s ∧ Below w.heap.size w w' := by
  obtain ⟨sa, ba, rfl, ra⟩ := hu
  obtain ⟨sb, bb, rfl, rb⟩ := hv
  obtain ⟨la, da, -, ea, -, na⟩ := ra.len fy
  obtain ⟨lb, db, -, eb, -, nb⟩ := rb.len fz
  have hs' := hs.out
  cases sa <;> cases sb <;> simp only [iv, if_true, if_false, Bool.false_eq_true] at ea eb
  · exact add_00 ba bb la lb s _ w da db (by omega) (by omega) rfl (by show _ = _; simp only [Bool.false_eq_true, if_false]; omega)
  · by_cases h : val lb ≤ val la
    · exact add_01ge ba bb la lb s _ w da db (by omega) (by omega) _ rfl (by unfold cmpN; split <;> (try split) <;> omega) h rfl (by show _ = _; simp only [Bool.false_eq_true, if_false]; omega)
    · exact add_01lt ba bb la lb s _ w da db (by omega) (by omega) _ rfl (by unfold cmpN; rw [if_pos (by omega)]; decide) (by omega) rfl (by show _ = _; simp only [if_true]; omega)
  · by_cases h : val lb ≤ val la
    · exact add_10ge ba bb la lb s _ w da db (by omega) (by omega) _ rfl (by unfold cmpN; split <;> (try split) <;> omega) h rfl (by show _ = _; simp only [if_true]; omega)
    · exact add_10lt ba bb la lb s _ w da db (by omega) (by omega) _ rfl (by unfold cmpN; rw [if_pos (by omega)]; decide) (by omega) rfl (by show _ = _; simp only [Bool.false_eq_true, if_false]; omega)
  · exact add_11 ba bb la lb s _ w da db (by omega) (by omega) rfl (by show _ = _; simp only [if_true]; omega)

end Go.Proofs.YtpenicjlpiechaaDoor.Wd
