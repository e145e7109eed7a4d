/- What the reference's Wide answers, at all numbers of 128 bits. -/
import Derived.Test.YtpenicjlpiechaaDoorQRefFit
namespace Go.Proofs.YtpenicjlpiechaaDoor.Wd
set_option maxRecDepth 10000
open Go Go.RowKit
set_option linter.unusedVariables false
theorem few128 (z : Int) (h : -340282366920938463463374607431768211456 ≤ z ∧ z ≤ 340282366920938463463374607431768211456) : Few z 200 :=
  few_of z 200 129 (by omega) (by omega)
section
variable {a : Act} {w : World} {dst : Option Tmp} {ty : TypeId} {pos : String} {aft : Array Edge} {gd : Option (Nat × Bool)} {K : Value → World → Prop}
theorem g_shl1 (y : Operand) (k : Nat) (hk : k < 64) (hy : a.eval y = .int .i64 k) (hk' : K (.int .u64 ((2 ^ k : Nat) : Int)) w) : gives Tryd.prog ⟨dst, .binOp .shl 34 (.const (.int .u64 1)) y 3, ty, pos, aft, gd⟩ a w K := by
  refine g_val _ w ?_ hk'
  have e : a.eval (.const (.int .u64 1)) = .int .u64 1 := rfl
  have h2 : 2 ^ k < 2 ^ 64 := Nat.pow_lt_pow_right (by omega) hk
  simp only [execOp, e, hy]
  go_simp
  rw [IntKind.wrap_u64, pow_cast k]
  generalize 2 ^ k = q at h2 ⊢
  omega
theorem g_uadd (x y : Operand) (p q r : Int) (hx : a.eval x = .int .u64 p) (hy : a.eval y = .int .u64 q) (hr : IntKind.u64.wrap (p + q) = r) (hk : K (.int .u64 r) w) : gives Tryd.prog ⟨dst, .binOp .add 34 x y 34, ty, pos, aft, gd⟩ a w K :=
  g_val (.int .u64 r) w (by simp [execOp, hx, hy, eqGuard, binOp, Op.intArith, hr]) hk
end
theorem at_i (v : Value) (l : List Bool) (i : Int) (k : Nat) (w : World) (h : Rd w v l) (b : Bool) (hb : Hid (atB l k = b)) (hi : Hid (i = (k : Int))) :
    Calls Tryd.prog 75 #[v, .int .i64 i] w fun e w' => e = .returned (.bool b) ∧ w' = w := by
  have e := hi.out
  subst e
  exact at_any v l k w h b hb
theorem low_step (l : List Bool) (k : Nat) (hk : k < 64) (A : Bool) (hA : atB l k = A) : val (l.take (k + 1)) = val (l.take k) + 2 ^ k * bit A ∧ IntKind.u64.wrap ((val (l.take k) : Int) + ((2 ^ k : Nat) : Int)) = ((val (l.take k) + 2 ^ k : Nat) : Int) := by
  have h1 := val_take_succ l k
  rw [hA] at h1
  have h2 := val_take_lt l k
  have h3 : 2 ^ (k + 1) ≤ 2 ^ 64 := Nat.pow_le_pow_right (by omega) (by omega)
  rw [Nat.pow_succ] at h3
  refine ⟨h1, ?_⟩
  rw [IntKind.wrap_u64]
  omega
theorem at_drop (l : List Bool) (i k : Nat) : atB (l.drop i) k = atB l (i + k) := by simp [atB, List.getD]

set_option maxRecDepth 10000 in
set_option maxHeartbeats 8000000 in
theorem wide_0 (ba : Value) (z hh ll : Int) (w : World) (ra : RF w false ba z) (hz : In128 z) (fz : Few z 200) (f1 : Few 1 200) (fz1 : Few (z + 1) 200) (hh1 : z / 18446744073709551616 = hh) (hl1 : z % 18446744073709551616 = ll) (hsg : ¬ z < 0) :
    Calls Tryd.prog 61 #[.agg #[.bool false, ba]] w fun e w' => e = .returned (.tuple #[.int .i64 hh, .int .u64 ll]) ∧ Below w.heap.size w w' := by
  unfold In128 at hz
  go_enter Tryd.func61, Tryd.ntmps61
  go_wp2_with (first
    | ((with_reducible refine at_boxD 1 72 ?_); refine L_box 72 _ ([.bool false, ba]) rfl ?_; intro w1 t_ b_a; have l_a : w.heap.size ≤ w.heap.size := Nat.le_refl _; replace ra := ra.below t_.toBelow; have hB : Below w.heap.size w w1 := t_.below (Below.refl _ _) (Nat.le_refl _); clear t_)
    | ((with_reducible refine at_loadD 8 72 ?_); refine L_load_all 72 _ (w.heap.size) ([.bool false, ba]) 72 _ rfl b_a Tryd.underlying72 rfl (szR) ?_)
    | ((with_reducible refine at_allocD 4 72 ?_); refine L_alloc 72 ([.bool false, .slice none 0 0]) zeroR ?_; intro w2 t_ b_n; have l_n : w.heap.size ≤ w1.heap.size := hB.size; have o_n := b_a.lt; replace ra := ra.below t_.toBelow; replace b_a := t_.blk b_a (by omega); replace hB := t_.below hB l_n; clear t_)
    | ((with_reducible refine at_storeX 4 72 ?_); refine L_store_all 72 _ _ (w1.heap.size) ([.bool false, ba]) _ 72 rfl rfl b_n (szR) (rfl) (one_rc _ _ ra.sl) ?_; have b0_n := b_n; clear b_n; intro w3 t_ b_n; replace ra := ra.turn t_ b0_n (by decide); replace b_a := t_.blk b_a (by omega); replace hB := t_.below hB l_n; clear t_ b0_n)
    | ((with_reducible refine at_loadD 10 4 ?_); refine L_give (by rfl) (g_cell4 _ (w.heap.size) 0 ([.bool false, ba]) 72 (.bool false) rfl b_a (rfl) ?_)))
  have r_fin := ra
  clear ra
  obtain ⟨l, rdn, hcl, hvl⟩ := r_fin.list
  obtain ⟨gn_, capn, spn, en, -⟩ := id rdn
  subst en
  have ca := b_a.cell 0 _ rfl
  have cn := b_n.cell 1 _ rfl
  go_loop [5, 6, 7] (fun hv lv i => ∃ k : Nat, k ≤ 64 ∧ i = .int .i64 k ∧ lv = .int .u64 (val (l.take k) : Nat) ∧ hv = .int .u64 (val ((l.drop 64).take k) : Nat)) (fun _ _ i => 64 - (intOf i).toNat)
  case atStart => exact ⟨0, by omega, rfl, rfl, rfl⟩
  case round =>
    obtain ⟨k, hk, rfl, rfl, rfl⟩ := hrel
    by_cases hlt : k < 64
    · obtain ⟨A, hA⟩ : ∃ A, atB l k = A := ⟨_, rfl⟩
      obtain ⟨D, hD⟩ : ∃ D, atB (l.drop 64) k = D := ⟨_, rfl⟩
      obtain ⟨s1, s2⟩ := low_step l k hlt A hA
      obtain ⟨s3, s4⟩ := low_step (l.drop 64) k hlt D hD
      rw [at_drop] at hD
      have hki : (64 + k : Nat) = (k + 64 : Nat) := by omega
      rw [hki] at hD
      generalize val (l.take k) = p1 at *
      generalize val ((l.drop 64).take k) = p2 at *
      replace hA : Hid _ := hA
      replace hD : Hid _ := hD
      have hkk : Hid (((k : Int) + 64) = ((k + 64 : Nat) : Int)) := by show _ = _; omega
      clear hki
      replace s2 : Hid _ := s2
      replace s4 : Hid _ := s4
      replace s1 : Hid _ := s1
      replace s3 : Hid _ := s3
      cases A <;> cases D
      · skip
        go_wp2_with fail
        refine (at_any _ l k w3 rdn false hA).mono ?_
        rintro e w8 ⟨rfl, hW_⟩
        rw [hW_]
        clear hW_ w8
        go_wp2_with fail
        refine (at_i _ l _ (k + 64) w3 rdn false hD hkk).mono ?_
        rintro e w8 ⟨rfl, hW_⟩
        rw [hW_]
        clear hW_ w8
        go_wp2_with fail
        exact ⟨⟨k + 1, by omega, by go_num, by rw [s1.out]; try simp [bit], by rw [s3.out]; try simp [bit]⟩, by simp [intOf]; omega⟩
      · skip
        go_wp2_with fail
        refine (at_any _ l k w3 rdn false hA).mono ?_
        rintro e w8 ⟨rfl, hW_⟩
        rw [hW_]
        clear hW_ w8
        go_wp2_with fail
        refine (at_i _ l _ (k + 64) w3 rdn true hD hkk).mono ?_
        rintro e w8 ⟨rfl, hW_⟩
        rw [hW_]
        clear hW_ w8
        go_wp2_with (first
          | ((with_reducible refine at_binD 34 ?_); refine L_give (by rfl) (g_shl1 _ k hlt rfl ?_))
          | ((with_reducible refine at_binD 35 ?_); refine L_give (by rfl) (g_uadd _ _ _ _ _ rfl rfl s4.out ?_)))
        exact ⟨⟨k + 1, by omega, by go_num, by rw [s1.out]; try simp [bit], by rw [s3.out]; try simp [bit]⟩, by simp [intOf]; omega⟩
      · skip
        go_wp2_with fail
        refine (at_any _ l k w3 rdn true hA).mono ?_
        rintro e w8 ⟨rfl, hW_⟩
        rw [hW_]
        clear hW_ w8
        go_wp2_with (first
          | ((with_reducible refine at_binD 25 ?_); refine L_give (by rfl) (g_shl1 _ k hlt rfl ?_))
          | ((with_reducible refine at_binD 26 ?_); refine L_give (by rfl) (g_uadd _ _ _ _ _ rfl rfl s2.out ?_)))
        refine (at_i _ l _ (k + 64) w3 rdn false hD hkk).mono ?_
        rintro e w8 ⟨rfl, hW_⟩
        rw [hW_]
        clear hW_ w8
        go_wp2_with fail
        exact ⟨⟨k + 1, by omega, by go_num, by rw [s1.out]; try simp [bit], by rw [s3.out]; try simp [bit]⟩, by simp [intOf]; omega⟩
      · skip
        go_wp2_with fail
        refine (at_any _ l k w3 rdn true hA).mono ?_
        rintro e w8 ⟨rfl, hW_⟩
        rw [hW_]
        clear hW_ w8
        go_wp2_with (first
          | ((with_reducible refine at_binD 25 ?_); refine L_give (by rfl) (g_shl1 _ k hlt rfl ?_))
          | ((with_reducible refine at_binD 26 ?_); refine L_give (by rfl) (g_uadd _ _ _ _ _ rfl rfl s2.out ?_)))
        refine (at_i _ l _ (k + 64) w3 rdn true hD hkk).mono ?_
        rintro e w8 ⟨rfl, hW_⟩
        rw [hW_]
        clear hW_ w8
        go_wp2_with (first
          | ((with_reducible refine at_binD 34 ?_); refine L_give (by rfl) (g_shl1 _ k hlt rfl ?_))
          | ((with_reducible refine at_binD 35 ?_); refine L_give (by rfl) (g_uadd _ _ _ _ _ rfl rfl s4.out ?_)))
        exact ⟨⟨k + 1, by omega, by go_num, by rw [s1.out]; try simp [bit], by rw [s3.out]; try simp [bit]⟩, by simp [intOf]; omega⟩
    · obtain rfl : k = 64 := by omega
      have hsp := val_split' l 64
      have hlt1 := val_take_lt l 64
      have hlen : l.length ≤ 127 := (hcl.len 127).2 (by rw [hvl]; omega)
      have htk : (l.drop 64).take 64 = l.drop 64 := List.take_of_length_le (by rw [List.length_drop]; omega)
      rw [htk]
      have hlt2 : val (l.drop 64) < 2 ^ 63 := Nat.lt_of_lt_of_le (val_lt _) (Nat.pow_le_pow_right (by omega) (by rw [List.length_drop]; omega))
      generalize val (l.take 64) = p1 at *
      generalize val (l.drop 64) = p2 at *
      have f1 : IntKind.i64.wrap (p2 : Int) = hh := by rw [IntKind.wrap_i64]; omega
      obtain rfl : (p1 : Int) = ll := by omega
      clear hsp hlt1 hlt2 hlen htk hlt hk hh1 hl1 hvl hcl rdn r_fin
      go_wp2_with fail
      go_ret2
      exact ⟨rfl, hB⟩

set_option maxRecDepth 10000 in
set_option maxHeartbeats 8000000 in
theorem wide_1 (ba : Value) (z hh ll : Int) (w : World) (ra : RF w true ba z) (hz : In128 z) (fz : Few z 200) (f1 : Few 1 200) (fz1 : Few (z + 1) 200) (hh1 : z / 18446744073709551616 = hh) (hl1 : z % 18446744073709551616 = ll) (hsg : z < 0) :
    Calls Tryd.prog 61 #[.agg #[.bool true, ba]] w fun e w' => e = .returned (.tuple #[.int .i64 hh, .int .u64 ll]) ∧ Below w.heap.size w w' := by
  unfold In128 at hz
  go_enter Tryd.func61, Tryd.ntmps61
  go_wp2_with (first
    | ((with_reducible refine at_boxD 1 72 ?_); refine L_box 72 _ ([.bool true, ba]) rfl ?_; intro w1 t_ b_a; have l_a : w.heap.size ≤ w.heap.size := Nat.le_refl _; replace ra := ra.below t_.toBelow; have hB : Below w.heap.size w w1 := t_.below (Below.refl _ _) (Nat.le_refl _); clear t_)
    | ((with_reducible refine at_loadD 8 72 ?_); refine L_load_all 72 _ (w.heap.size) ([.bool true, ba]) 72 _ rfl b_a Tryd.underlying72 rfl (szR) ?_)
    | ((with_reducible refine at_allocD 4 72 ?_); refine L_alloc 72 ([.bool false, .slice none 0 0]) zeroR ?_; intro w2 t_ b_n; have l_n : w.heap.size ≤ w1.heap.size := hB.size; have o_n := b_a.lt; replace ra := ra.below t_.toBelow; replace b_a := t_.blk b_a (by omega); replace hB := t_.below hB l_n; clear t_)
    | ((with_reducible refine at_storeX 4 72 ?_); refine L_store_all 72 _ _ (w1.heap.size) ([.bool true, ba]) _ 72 rfl rfl b_n (szR) (rfl) (one_rc _ _ ra.sl) ?_; have b0_n := b_n; clear b_n; intro w3 t_ b_n; replace ra := ra.turn t_ b0_n (by decide); replace b_a := t_.blk b_a (by omega); replace hB := t_.below hB l_n; clear t_ b0_n)
    | ((with_reducible refine at_loadD 10 4 ?_); refine L_give (by rfl) (g_cell4 _ (w.heap.size) 0 ([.bool true, ba]) 72 (.bool true) rfl b_a (rfl) ?_))
    | ((with_reducible refine stop_region 3 ?_); intro X1 hX1))
  refine hX1.out ?_
  clear hX1
  have hB0 := hB.size
  refine wp_region_pred (by kernel_rfl) (by kernel_rfl) [.eq (.agg #[.bool true, ba]), .rn (1), .rn (z + 1), .rn (-(z + 1)), .at (w1.heap.size) (-(z + 1))] ([none, none, none, none, some (w1.heap.size)]) (fun wx => Below w.heap.size w3 wx ∧ Blk wx (w.heap.size) ([.bool true, ba]) 72 ∧ (RF wx true ba z) ∧ (∃ x y, Blk wx (w1.heap.size) [x, y] 72)) ?_ ?_ ?_ ?_
  · exact nobs1 _ _ 4 rfl rfl
  · exact ⟨(Below.refl _ _).drew, b_a.drew, ra.below (Below.refl _ _).drew, ⟨_, _, b_n.drew⟩⟩
  · simp only [full, Act.put, List.setIfInBounds_toArray, List.set_cons_succ, List.set_cons_zero, Nat.zero_add, Nat.reduceAdd]
    intro i o ho v wx hC hall
    obtain ⟨hC1, q_a, g_ra, ⟨x_4, y_4, p_4⟩⟩ := id hC
    rcases i with _ | _ | _ | _ | _ | i
    · obtain rfl := Option.some.inj ho
      refine gw rfl (g_load_all 72 _ (w.heap.size) ([.bool true, ba]) 72 _ rfl q_a Tryd.underlying72 rfl (szR) ?_)
      exact ⟨own_pd _ rfl rfl, hC, Below.refl _ _⟩
    · obtain rfl := Option.some.inj ho
      refine gw rfl (g_call 36 _ _ [.int .i64 (1)] (kf36 _ _) (rfl) ((rof_any 1 wx (by unfold In64; omega)).mono ?_))
      rintro e w' ⟨u_, rfl, hp, hb⟩
      exact ⟨_, rfl, own_pd _ rfl hp, ⟨hC.1.trans (hb.mono (Nat.le_trans hB0 hC.1.size)), q_a.below hb q_a.lt, g_ra.below hb, ⟨x_4, y_4, p_4.below hb p_4.lt⟩⟩, hb⟩
    · obtain rfl := Option.some.inj ho
      have d0 : v 0 = .agg #[.bool true, ba] := hall ⟨0, .data⟩ (by simp) rfl _ rfl
      have d1 : RN wx (v 1) (1) := hall ⟨1, .data⟩ (by simp) rfl _ rfl
      refine gw rfl (g_call 33 _ _ [.agg #[.bool true, ba], v 1] (kf33 _ _) (by show ([v 0, v 1] : List Value) = _; rw [d0]; (try rfl)) ((radd_any _ _ z 1 (z + 1) wx ⟨_, _, rfl, g_ra⟩ d1 fz f1 (by show _ = _; rfl)).mono ?_))
      rintro e w' ⟨u_, rfl, hp, hb⟩
      exact ⟨_, rfl, own_pd _ rfl hp, ⟨hC.1.trans (hb.mono (Nat.le_trans hB0 hC.1.size)), q_a.below hb q_a.lt, g_ra.below hb, ⟨x_4, y_4, p_4.below hb p_4.lt⟩⟩, hb⟩
    · obtain rfl := Option.some.inj ho
      have d2 : RN wx (v 2) (z + 1) := hall ⟨2, .data⟩ (by simp) rfl _ rfl
      refine gw rfl (g_call 34 _ _ [v 2] (kf34 _ _) (rfl) ((less_any _ (z + 1) wx d2 fz1).mono ?_))
      rintro e w' ⟨u_, rfl, hp, hb⟩
      exact ⟨_, rfl, own_pd _ rfl hp, ⟨hC.1.trans (hb.mono (Nat.le_trans hB0 hC.1.size)), q_a.below hb q_a.lt, g_ra.below hb, ⟨x_4, y_4, p_4.below hb p_4.lt⟩⟩, hb⟩
    · obtain rfl := Option.some.inj ho
      have d3 : RN wx (v 3) (-(z + 1)) := hall ⟨3, .data⟩ (by simp) rfl _ rfl
      obtain ⟨s8, b8, e8, r8⟩ := d3
      refine gw rfl (g_store_all 72 _ _ (w1.heap.size) [.bool s8, b8] _ 72 rfl (show v 3 = _ from e8) p_4 szR rfl (one_rc _ _ r8.sl) (fun w' h1 h2 => ?_))
      exact ⟨own_pd _ rfl ⟨_, _, h2, r8.turn h1 p_4 (by decide)⟩, ⟨h1.below hC.1 l_n, h1.blk q_a (by omega), g_ra.turn h1 p_4 (by decide), ⟨_, _, h2⟩⟩, h1, _, p_4⟩
    · simp at ho
  · simp only [full, Act.put, List.setIfInBounds_toArray, List.set_cons_succ, List.set_cons_zero, Nat.zero_add, Nat.reduceAdd]
    intro v w4 hC hall
    have d0 : v 0 = .agg #[.bool true, ba] := hall 0 _ (by decide) rfl
    (try rw [d0])
    clear d0
    generalize v 1 = y1_1
    generalize v 2 = y1_2
    generalize v 3 = y1_3
    obtain ⟨s_n1, v_n1, h_n, r_n1⟩ := (hall 4 _ (by decide) rfl : RA w4 (w1.heap.size) (-(z + 1)))
    clear hall
    obtain ⟨hC, h_a, g_ra, -⟩ := hC
    replace ra := g_ra
    replace b_a := h_a
    replace b_n := h_n
    replace hB := hB.trans hC
    clear hC hB0
    have r_fin := r_n1
    clear ra r_n1
    obtain ⟨l, rdn, hcl, hvl⟩ := r_fin.list
    obtain ⟨gn_, capn, spn, en, -⟩ := id rdn
    subst en
    have ca := b_a.cell 0 _ rfl
    have cn := b_n.cell 1 _ rfl
    go_wp2_with fail
    go_loop [5, 6, 7] (fun hv lv i => ∃ k : Nat, k ≤ 64 ∧ i = .int .i64 k ∧ lv = .int .u64 (val (l.take k) : Nat) ∧ hv = .int .u64 (val ((l.drop 64).take k) : Nat)) (fun _ _ i => 64 - (intOf i).toNat)
    case atStart => exact ⟨0, by omega, rfl, rfl, rfl⟩
    case round =>
      obtain ⟨k, hk, rfl, rfl, rfl⟩ := hrel
      by_cases hlt : k < 64
      · obtain ⟨A, hA⟩ : ∃ A, atB l k = A := ⟨_, rfl⟩
        obtain ⟨D, hD⟩ : ∃ D, atB (l.drop 64) k = D := ⟨_, rfl⟩
        obtain ⟨s1, s2⟩ := low_step l k hlt A hA
        obtain ⟨s3, s4⟩ := low_step (l.drop 64) k hlt D hD
        rw [at_drop] at hD
        have hki : (64 + k : Nat) = (k + 64 : Nat) := by omega
        rw [hki] at hD
        generalize val (l.take k) = p1 at *
        generalize val ((l.drop 64).take k) = p2 at *
        replace hA : Hid _ := hA
        replace hD : Hid _ := hD
        have hkk : Hid (((k : Int) + 64) = ((k + 64 : Nat) : Int)) := by show _ = _; omega
        clear hki
        replace s2 : Hid _ := s2
        replace s4 : Hid _ := s4
        replace s1 : Hid _ := s1
        replace s3 : Hid _ := s3
        cases A <;> cases D
        · skip
          go_wp2_with fail
          refine (at_any _ l k w4 rdn false hA).mono ?_
          rintro e w8 ⟨rfl, hW_⟩
          rw [hW_]
          clear hW_ w8
          go_wp2_with fail
          refine (at_i _ l _ (k + 64) w4 rdn false hD hkk).mono ?_
          rintro e w8 ⟨rfl, hW_⟩
          rw [hW_]
          clear hW_ w8
          go_wp2_with fail
          exact ⟨⟨k + 1, by omega, by go_num, by rw [s1.out]; try simp [bit], by rw [s3.out]; try simp [bit]⟩, by simp [intOf]; omega⟩
        · skip
          go_wp2_with fail
          refine (at_any _ l k w4 rdn false hA).mono ?_
          rintro e w8 ⟨rfl, hW_⟩
          rw [hW_]
          clear hW_ w8
          go_wp2_with fail
          refine (at_i _ l _ (k + 64) w4 rdn true hD hkk).mono ?_
          rintro e w8 ⟨rfl, hW_⟩
          rw [hW_]
          clear hW_ w8
          go_wp2_with (first
            | ((with_reducible refine at_binD 34 ?_); refine L_give (by rfl) (g_shl1 _ k hlt rfl ?_))
            | ((with_reducible refine at_binD 35 ?_); refine L_give (by rfl) (g_uadd _ _ _ _ _ rfl rfl s4.out ?_)))
          exact ⟨⟨k + 1, by omega, by go_num, by rw [s1.out]; try simp [bit], by rw [s3.out]; try simp [bit]⟩, by simp [intOf]; omega⟩
        · skip
          go_wp2_with fail
          refine (at_any _ l k w4 rdn true hA).mono ?_
          rintro e w8 ⟨rfl, hW_⟩
          rw [hW_]
          clear hW_ w8
          go_wp2_with (first
            | ((with_reducible refine at_binD 25 ?_); refine L_give (by rfl) (g_shl1 _ k hlt rfl ?_))
            | ((with_reducible refine at_binD 26 ?_); refine L_give (by rfl) (g_uadd _ _ _ _ _ rfl rfl s2.out ?_)))
          refine (at_i _ l _ (k + 64) w4 rdn false hD hkk).mono ?_
          rintro e w8 ⟨rfl, hW_⟩
          rw [hW_]
          clear hW_ w8
          go_wp2_with fail
          exact ⟨⟨k + 1, by omega, by go_num, by rw [s1.out]; try simp [bit], by rw [s3.out]; try simp [bit]⟩, by simp [intOf]; omega⟩
        · skip
          go_wp2_with fail
          refine (at_any _ l k w4 rdn true hA).mono ?_
          rintro e w8 ⟨rfl, hW_⟩
          rw [hW_]
          clear hW_ w8
          go_wp2_with (first
            | ((with_reducible refine at_binD 25 ?_); refine L_give (by rfl) (g_shl1 _ k hlt rfl ?_))
            | ((with_reducible refine at_binD 26 ?_); refine L_give (by rfl) (g_uadd _ _ _ _ _ rfl rfl s2.out ?_)))
          refine (at_i _ l _ (k + 64) w4 rdn true hD hkk).mono ?_
          rintro e w8 ⟨rfl, hW_⟩
          rw [hW_]
          clear hW_ w8
          go_wp2_with (first
            | ((with_reducible refine at_binD 34 ?_); refine L_give (by rfl) (g_shl1 _ k hlt rfl ?_))
            | ((with_reducible refine at_binD 35 ?_); refine L_give (by rfl) (g_uadd _ _ _ _ _ rfl rfl s4.out ?_)))
          exact ⟨⟨k + 1, by omega, by go_num, by rw [s1.out]; try simp [bit], by rw [s3.out]; try simp [bit]⟩, by simp [intOf]; omega⟩
      · obtain rfl : k = 64 := by omega
        have hsp := val_split' l 64
        have hlt1 := val_take_lt l 64
        have hlen : l.length ≤ 127 := (hcl.len 127).2 (by rw [hvl]; omega)
        have htk : (l.drop 64).take 64 = l.drop 64 := List.take_of_length_le (by rw [List.length_drop]; omega)
        rw [htk]
        have hlt2 : val (l.drop 64) < 2 ^ 63 := Nat.lt_of_lt_of_le (val_lt _) (Nat.pow_le_pow_right (by omega) (by rw [List.length_drop]; omega))
        generalize val (l.take 64) = p1 at *
        generalize val (l.drop 64) = p2 at *
        have f2 := not_u64 (p2 : Int) (by omega) (by omega)
        have f3 : IntKind.i64.wrap (18446744073709551615 - (p2 : Int)) = hh := by rw [IntKind.wrap_i64]; omega
        have f4 := not_u64 (p1 : Int) (by omega) (by omega)
        obtain rfl : 18446744073709551615 - (p1 : Int) = ll := by omega
        have s2_ : IntKind.u64.signed = false := rfl
        clear hsp hlt1 hlt2 hlen htk hlt hk hh1 hl1 hvl hcl rdn r_fin
        go_wp2_with fail
        go_ret2
        exact ⟨rfl, hB⟩

theorem wide_any (u : Value) (z hh ll : Int) (w : World) (hu : RN w u z) (hz : In128 z) (hh1 : Hid (z / 18446744073709551616 = hh)) (hl1 : Hid (z % 18446744073709551616 = ll)) :
    Calls Tryd.prog 61 #[u] w fun e w' => e = .returned (.tuple #[.int .i64 hh, .int .u64 ll]) ∧ Below w.heap.size w w' := by
  obtain ⟨s, ba, rfl, ra⟩ := hu
  have hs := ra.sign
  have hz' := hz
  unfold In128 at hz'
  by_cases h : z < 0
  · rw [decide_eq_true h] at hs
    subst hs
    exact wide_1 ba z hh ll w ra hz (few128 _ (by omega)) (few128 _ (by omega)) (few128 _ (by omega)) hh1.out hl1.out h
  · rw [decide_eq_false h] at hs
    subst hs
    exact wide_0 ba z hh ll w ra hz (few128 _ (by omega)) (few128 _ (by omega)) (few128 _ (by omega)) hh1.out hl1.out h

end Go.Proofs.YtpenicjlpiechaaDoor.Wd
