/- What the reference's Fits and Cmp answer. -/
import Derived.Test.YtpeiboehdjhimaaRefAdd
import Derived.Laws.OwnMore
namespace Go.Proofs.Ytpeiboehdjhimaa
open Go Go.RowKit
set_option linter.unusedVariables false
theorem few_of (z : Int) (k : Nat) (m : Nat) (h : z.natAbs < 2 ^ m) (hm : m ≤ k) : Few z k := by
  unfold Few
  exact Nat.lt_of_lt_of_le h (Nat.pow_le_pow_right (by omega) hm)
theorem Few.mono {z : Int} {k m : Nat} (h : Few z m) (hm : m ≤ k) : Few z k := few_of z k m h hm
theorem Few.lit (z : Int) (k m : Nat) (h : z.natAbs < m) (hm : m ≤ 2 ^ k) : Few z k := by unfold Few; omega
theorem Few.add {y z : Int} {k : Nat} (hy : Few y k) (hz : Few z k) : Few (y + z) (k + 1) := by
  unfold Few at *
  rw [Nat.pow_succ]
  have := Int.natAbs_add_le y z
  omega

set_option maxRecDepth 10000 in
set_option maxHeartbeats 4000000 in
theorem fits_00 (g cap : Nat) (l : List Bool) (p : Nat) (w : World) (fd : decide ((l.length : Int) ≤ (p : Int)) = false) :
    Calls Try.prog 15 #[.agg #[.bool false, .slice (some ⟨g, 0, none⟩) l.length cap], .int .i64 (p : Nat)] w fun e w' => e = .returned (.bool false) ∧ Below w.heap.size w w' := by
  go_enter Try.func15, Try.ntmps15
  go_wp2_with (first
    | ((with_reducible refine at_boxD 2 32 ?_); refine L_box 32 _ ([.bool false, .slice (some ⟨g, 0, none⟩) l.length cap]) rfl ?_; intro w1 t_ b_a; have l_a : w.heap.size ≤ w.heap.size := Nat.le_refl _; have hB : Below w.heap.size w w1 := t_.below (Below.refl _ _) (Nat.le_refl _); clear t_)
    | ((with_reducible refine at_loadD 6 4 ?_); refine L_give (by rfl) (g_cell4 _ (w.heap.size) 0 ([.bool false, .slice (some ⟨g, 0, none⟩) l.length cap]) 32 (.bool false) rfl b_a (rfl) ?_))
    | ((with_reducible refine at_loadD 9 30 ?_); refine L_give (by rfl) (g_cell30 _ (w.heap.size) 1 ([.bool false, .slice (some ⟨g, 0, none⟩) l.length cap]) 32 (.slice (some ⟨g, 0, none⟩) l.length cap) rfl b_a (rfl) ?_))
    | ((with_reducible refine at_binD 12 ?_); refine L_give (by rfl) (g_ileq 3 _ _ .i64 _ _ false rfl rfl (fd) ?_)))
  go_ret
  exact ⟨rfl, hB⟩

set_option maxRecDepth 10000 in
set_option maxHeartbeats 4000000 in
theorem fits_01 (g cap : Nat) (l : List Bool) (p : Nat) (w : World) (fd : decide ((l.length : Int) ≤ (p : Int)) = true) :
    Calls Try.prog 15 #[.agg #[.bool false, .slice (some ⟨g, 0, none⟩) l.length cap], .int .i64 (p : Nat)] w fun e w' => e = .returned (.bool true) ∧ Below w.heap.size w w' := by
  go_enter Try.func15, Try.ntmps15
  go_wp2_with (first
    | ((with_reducible refine at_boxD 2 32 ?_); refine L_box 32 _ ([.bool false, .slice (some ⟨g, 0, none⟩) l.length cap]) rfl ?_; intro w1 t_ b_a; have l_a : w.heap.size ≤ w.heap.size := Nat.le_refl _; have hB : Below w.heap.size w w1 := t_.below (Below.refl _ _) (Nat.le_refl _); clear t_)
    | ((with_reducible refine at_loadD 6 4 ?_); refine L_give (by rfl) (g_cell4 _ (w.heap.size) 0 ([.bool false, .slice (some ⟨g, 0, none⟩) l.length cap]) 32 (.bool false) rfl b_a (rfl) ?_))
    | ((with_reducible refine at_loadD 9 30 ?_); refine L_give (by rfl) (g_cell30 _ (w.heap.size) 1 ([.bool false, .slice (some ⟨g, 0, none⟩) l.length cap]) 32 (.slice (some ⟨g, 0, none⟩) l.length cap) rfl b_a (rfl) ?_))
    | ((with_reducible refine at_binD 12 ?_); refine L_give (by rfl) (g_ileq 3 _ _ .i64 _ _ true rfl rfl (fd) ?_)))
  go_ret
  exact ⟨rfl, hB⟩

set_option maxRecDepth 10000 in
set_option maxHeartbeats 4000000 in
theorem fits_10 (ba : Value) (z : Int) (p : Nat) (w : World) (rf : RF w true ba z) (fz : Few z 200) (f1 : Few 1 200) (fd : ∀ l, Can l → val l = (z + 1).natAbs → decide ((l.length : Int) ≤ (p : Int)) = false) :
    Calls Try.prog 15 #[.agg #[.bool true, ba], .int .i64 (p : Nat)] w fun e w' => e = .returned (.bool false) ∧ Below w.heap.size w w' := by
  go_enter Try.func15, Try.ntmps15
  go_wp2_with (first
    | ((with_reducible refine at_boxD 2 32 ?_); refine L_box 32 _ ([.bool true, ba]) rfl ?_; intro w1 t_ b_a; have l_a : w.heap.size ≤ w.heap.size := Nat.le_refl _; replace rf := rf.below t_.toBelow; have hB : Below w.heap.size w w1 := t_.below (Below.refl _ _) (Nat.le_refl _); clear t_)
    | ((with_reducible refine at_loadD 6 4 ?_); refine L_give (by rfl) (g_cell4 _ (w.heap.size) 0 ([.bool true, ba]) 32 (.bool true) rfl b_a (rfl) ?_))
    | ((with_reducible refine stop_region 3 ?_); intro X1 hX1))
  refine hX1.out ?_
  clear hX1
  refine wp_region_pred (by kernel_rfl) (by kernel_rfl) [.eq (.agg #[.bool true, ba]), .rn (1), .rn (z + 1), .rc ((z + 1).natAbs), .ln ((z + 1).natAbs), .eq (.int .i64 ((p : Nat))), .eq (.bool false), .eq (.bool false)] (List.replicate 8 none) (fun wx => Below w1.heap.size w1 wx) ?_ ?_ ?_ ?_
  · exact nobs _ _
  · exact (Below.refl _ _).drew
  · simp only [full, Act.put, List.setIfInBounds_toArray, List.set_cons_succ, List.set_cons_zero, Nat.zero_add, Nat.reduceAdd]
    intro i o ho v wx hC hall
    rcases i with _ | _ | _ | _ | _ | _ | _ | _ | i
    · obtain rfl := Option.some.inj ho
      refine gw rfl (g_load_all 32 _ (w.heap.size) ([.bool true, ba]) 32 _ rfl (b_a.below hC b_a.lt) Try.underlying32 rfl (szR) ?_)
      exact ⟨own_pd _ rfl rfl, hC, Below.refl _ _⟩
    · obtain rfl := Option.some.inj ho
      refine gw rfl (g_call 36 _ _ [.int .i64 (1)] (kf36 _ _) (rfl) ((rof_any 1 wx (by unfold In64; omega)).mono ?_))
      rintro e w' ⟨u_, rfl, hp, hb⟩
      exact ⟨_, rfl, own_pd _ rfl hp, hC.trans (hb.mono hC.size), hb⟩
    · obtain rfl := Option.some.inj ho
      have d0 : v 0 = .agg #[.bool true, ba] := hall ⟨0, .data⟩ (by simp) rfl _ rfl
      have d1 : RN wx (v 1) (1) := hall ⟨1, .data⟩ (by simp) rfl _ rfl
      refine gw rfl (g_call 37 _ _ [.agg #[.bool true, ba], v 1] (kf37 _ _) (by show ([v 0, v 1] : List Value) = _; rw [d0]; (try rfl)) ((radd_any _ _ z 1 (z + 1) wx ⟨_, _, rfl, rf.below hC⟩ d1 fz f1 (by show _ = _; rfl)).mono ?_))
      rintro e w' ⟨u_, rfl, hp, hb⟩
      exact ⟨_, rfl, own_pd _ rfl hp, hC.trans (hb.mono hC.size), hb⟩
    · obtain rfl := Option.some.inj ho
      have d2 : RN wx (v 2) (z + 1) := hall ⟨2, .data⟩ (by simp) rfl _ rfl
      obtain ⟨s8, b8, e8, r8⟩ := d2
      refine gw rfl (g_field _ s8 b8 (show v 2 = _ from e8) ?_)
      exact ⟨own_pd _ rfl r8.rc, hC, Below.refl _ _⟩
    · obtain rfl := Option.some.inj ho
      have d3 : RC wx (v 3) ((z + 1).natAbs) := hall ⟨3, .data⟩ (by simp) rfl _ rfl
      obtain ⟨l8, r8, c8, v8⟩ := d3
      obtain ⟨g8, cap8, sp8, e8, -⟩ := r8
      refine gw rfl (g_len _ _ _ _ (show v 3 = _ from e8) ?_)
      exact ⟨own_pd _ rfl ⟨l8, c8, v8, rfl⟩, hC, Below.refl _ _⟩
    · obtain rfl := Option.some.inj ho
      refine gw rfl (g_move _ _ rfl ?_)
      exact ⟨own_pd _ rfl rfl, hC, Below.refl _ _⟩
    · obtain rfl := Option.some.inj ho
      have d4 : ∃ l, Can l ∧ val l = (z + 1).natAbs ∧ v 4 = .int .i64 (l.length : Nat) := hall ⟨4, .data⟩ (by simp) rfl _ rfl
      have d5 : v 5 = .int .i64 ((p : Nat)) := hall ⟨5, .data⟩ (by simp) rfl _ rfl
      obtain ⟨l8, c8, v8, e8⟩ := d4
      refine gw rfl (g_ileq 3 _ _ .i64 _ _ false (show v 4 = _ from e8) (show v 5 = _ from d5) (fd l8 c8 v8) ?_)
      exact ⟨own_pd _ rfl rfl, hC, Below.refl _ _⟩
    · obtain rfl := Option.some.inj ho
      have d6 : v 6 = .bool false := hall ⟨6, .data⟩ (by simp) rfl _ rfl
      refine gw rfl (g_assign _ _ (show v 6 = _ from d6) ?_)
      exact ⟨own_pd _ rfl rfl, hC, Below.refl _ _⟩
    · simp at ho
  · simp only [full, Act.put, List.setIfInBounds_toArray, List.set_cons_succ, List.set_cons_zero, Nat.zero_add, Nat.reduceAdd]
    intro v w2 hC hall
    have d0 : v 0 = .agg #[.bool true, ba] := hall 0 _ (by decide) rfl
    (try rw [d0])
    clear d0
    generalize v 1 = y1_1
    generalize v 2 = y1_2
    generalize v 3 = y1_3
    generalize v 4 = y1_4
    have d5 : v 5 = .int .i64 ((p : Nat)) := hall 5 _ (by decide) rfl
    (try rw [d5])
    clear d5
    have d6 : v 6 = .bool false := hall 6 _ (by decide) rfl
    (try rw [d6])
    clear d6
    have d7 : v 7 = .bool false := hall 7 _ (by decide) rfl
    (try rw [d7])
    clear d7
    clear hall
    replace rf := rf.below hC
    replace b_a := b_a.below hC b_a.lt
    replace hB := hB.trans (hC.mono hB.size)
    clear hC
    go_wp2_with fail
    go_ret
    exact ⟨rfl, hB⟩

set_option maxRecDepth 10000 in
set_option maxHeartbeats 4000000 in
theorem fits_11 (ba : Value) (z : Int) (p : Nat) (w : World) (rf : RF w true ba z) (fz : Few z 200) (f1 : Few 1 200) (fd : ∀ l, Can l → val l = (z + 1).natAbs → decide ((l.length : Int) ≤ (p : Int)) = true) :
    Calls Try.prog 15 #[.agg #[.bool true, ba], .int .i64 (p : Nat)] w fun e w' => e = .returned (.bool true) ∧ Below w.heap.size w w' := by
  go_enter Try.func15, Try.ntmps15
  go_wp2_with (first
    | ((with_reducible refine at_boxD 2 32 ?_); refine L_box 32 _ ([.bool true, ba]) rfl ?_; intro w1 t_ b_a; have l_a : w.heap.size ≤ w.heap.size := Nat.le_refl _; replace rf := rf.below t_.toBelow; have hB : Below w.heap.size w w1 := t_.below (Below.refl _ _) (Nat.le_refl _); clear t_)
    | ((with_reducible refine at_loadD 6 4 ?_); refine L_give (by rfl) (g_cell4 _ (w.heap.size) 0 ([.bool true, ba]) 32 (.bool true) rfl b_a (rfl) ?_))
    | ((with_reducible refine stop_region 3 ?_); intro X1 hX1))
  refine hX1.out ?_
  clear hX1
  refine wp_region_pred (by kernel_rfl) (by kernel_rfl) [.eq (.agg #[.bool true, ba]), .rn (1), .rn (z + 1), .rc ((z + 1).natAbs), .ln ((z + 1).natAbs), .eq (.int .i64 ((p : Nat))), .eq (.bool true), .eq (.bool true)] (List.replicate 8 none) (fun wx => Below w1.heap.size w1 wx) ?_ ?_ ?_ ?_
  · exact nobs _ _
  · exact (Below.refl _ _).drew
  · simp only [full, Act.put, List.setIfInBounds_toArray, List.set_cons_succ, List.set_cons_zero, Nat.zero_add, Nat.reduceAdd]
    intro i o ho v wx hC hall
    rcases i with _ | _ | _ | _ | _ | _ | _ | _ | i
    · obtain rfl := Option.some.inj ho
      refine gw rfl (g_load_all 32 _ (w.heap.size) ([.bool true, ba]) 32 _ rfl (b_a.below hC b_a.lt) Try.underlying32 rfl (szR) ?_)
      exact ⟨own_pd _ rfl rfl, hC, Below.refl _ _⟩
    · obtain rfl := Option.some.inj ho
      refine gw rfl (g_call 36 _ _ [.int .i64 (1)] (kf36 _ _) (rfl) ((rof_any 1 wx (by unfold In64; omega)).mono ?_))
      rintro e w' ⟨u_, rfl, hp, hb⟩
      exact ⟨_, rfl, own_pd _ rfl hp, hC.trans (hb.mono hC.size), hb⟩
    · obtain rfl := Option.some.inj ho
      have d0 : v 0 = .agg #[.bool true, ba] := hall ⟨0, .data⟩ (by simp) rfl _ rfl
      have d1 : RN wx (v 1) (1) := hall ⟨1, .data⟩ (by simp) rfl _ rfl
      refine gw rfl (g_call 37 _ _ [.agg #[.bool true, ba], v 1] (kf37 _ _) (by show ([v 0, v 1] : List Value) = _; rw [d0]; (try rfl)) ((radd_any _ _ z 1 (z + 1) wx ⟨_, _, rfl, rf.below hC⟩ d1 fz f1 (by show _ = _; rfl)).mono ?_))
      rintro e w' ⟨u_, rfl, hp, hb⟩
      exact ⟨_, rfl, own_pd _ rfl hp, hC.trans (hb.mono hC.size), hb⟩
    · obtain rfl := Option.some.inj ho
      have d2 : RN wx (v 2) (z + 1) := hall ⟨2, .data⟩ (by simp) rfl _ rfl
      obtain ⟨s8, b8, e8, r8⟩ := d2
      refine gw rfl (g_field _ s8 b8 (show v 2 = _ from e8) ?_)
      exact ⟨own_pd _ rfl r8.rc, hC, Below.refl _ _⟩
    · obtain rfl := Option.some.inj ho
      have d3 : RC wx (v 3) ((z + 1).natAbs) := hall ⟨3, .data⟩ (by simp) rfl _ rfl
      obtain ⟨l8, r8, c8, v8⟩ := d3
      obtain ⟨g8, cap8, sp8, e8, -⟩ := r8
      refine gw rfl (g_len _ _ _ _ (show v 3 = _ from e8) ?_)
      exact ⟨own_pd _ rfl ⟨l8, c8, v8, rfl⟩, hC, Below.refl _ _⟩
    · obtain rfl := Option.some.inj ho
      refine gw rfl (g_move _ _ rfl ?_)
      exact ⟨own_pd _ rfl rfl, hC, Below.refl _ _⟩
    · obtain rfl := Option.some.inj ho
      have d4 : ∃ l, Can l ∧ val l = (z + 1).natAbs ∧ v 4 = .int .i64 (l.length : Nat) := hall ⟨4, .data⟩ (by simp) rfl _ rfl
      have d5 : v 5 = .int .i64 ((p : Nat)) := hall ⟨5, .data⟩ (by simp) rfl _ rfl
      obtain ⟨l8, c8, v8, e8⟩ := d4
      refine gw rfl (g_ileq 3 _ _ .i64 _ _ true (show v 4 = _ from e8) (show v 5 = _ from d5) (fd l8 c8 v8) ?_)
      exact ⟨own_pd _ rfl rfl, hC, Below.refl _ _⟩
    · obtain rfl := Option.some.inj ho
      have d6 : v 6 = .bool true := hall ⟨6, .data⟩ (by simp) rfl _ rfl
      refine gw rfl (g_assign _ _ (show v 6 = _ from d6) ?_)
      exact ⟨own_pd _ rfl rfl, hC, Below.refl _ _⟩
    · simp at ho
  · simp only [full, Act.put, List.setIfInBounds_toArray, List.set_cons_succ, List.set_cons_zero, Nat.zero_add, Nat.reduceAdd]
    intro v w2 hC hall
    have d0 : v 0 = .agg #[.bool true, ba] := hall 0 _ (by decide) rfl
    (try rw [d0])
    clear d0
    generalize v 1 = y1_1
    generalize v 2 = y1_2
    generalize v 3 = y1_3
    generalize v 4 = y1_4
    have d5 : v 5 = .int .i64 ((p : Nat)) := hall 5 _ (by decide) rfl
    (try rw [d5])
    clear d5
    have d6 : v 6 = .bool true := hall 6 _ (by decide) rfl
    (try rw [d6])
    clear d6
    have d7 : v 7 = .bool true := hall 7 _ (by decide) rfl
    (try rw [d7])
    clear d7
    clear hall
    replace rf := rf.below hC
    replace b_a := b_a.below hC b_a.lt
    replace hB := hB.trans (hC.mono hB.size)
    clear hC
    go_wp2_with fail
    go_ret
    exact ⟨rfl, hB⟩

theorem pow_cast (p : Nat) : ((2 : Int) ^ p) = ((2 ^ p : Nat) : Int) := by rw [Int.natCast_pow]; rfl
theorem fits_any (u : Value) (z : Int) (p : Nat) (w : World) (b : Bool) (hu : RN w u z) (fz : Few z 200) (hb : Hid (decide (-((2 : Int) ^ p) ≤ z ∧ z < (2 : Int) ^ p) = b)) :
    Calls Try.prog 15 #[u, .int .i64 (p : Nat)] w fun e w' => e = .returned (.bool b) ∧ Below w.heap.size w w' := by
  obtain ⟨s, bv, rfl, rf⟩ := hu
  have hb' := hb.out
  rw [pow_cast] at hb'
  have hpos : 0 < 2 ^ p := Nat.two_pow_pos p
  cases s
  · obtain ⟨l, rd, hc, hz, -, hl⟩ := rf.len fz
    obtain ⟨g, cap, sp, rfl, -⟩ := id rd
    rw [iv_false] at hz
    have hlen := hc.len p
    have fd : decide ((l.length : Int) ≤ (p : Int)) = b := by
      rw [← hb']
      congr 1
      apply propext
      rw [hz]
      constructor
      · intro h
        have := hlen.1 (by omega)
        omega
      · intro h
        have := hlen.2 (by omega)
        omega
    cases b
    · exact fits_00 g cap l p w fd
    · exact fits_01 g cap l p w fd
  · have fd : ∀ l, Can l → val l = (z + 1).natAbs → decide ((l.length : Int) ≤ (p : Int)) = b := by
      intro l hc hv
      obtain ⟨l0, -, -, hz, hnil⟩ := id rf
      rw [iv_true] at hz
      have hlen := hc.len p
      rw [hv] at hlen
      have hz0 : z < 0 := by
        by_cases h0 : val l0 = 0
        · obtain ⟨l1, -, hc1, hz1, hnil1⟩ := id rf
          rw [iv_true] at hz1
          have := hnil1 (hc1.zero (by omega))
          cases this
        · omega
      rw [← hb']
      congr 1
      apply propext
      constructor
      · intro h
        have := hlen.1 (by omega)
        omega
      · intro h
        have := hlen.2 (by omega)
        omega
    cases b
    · exact fits_10 bv z p w rf fz (Few.lit 1 200 2 (by decide) (Nat.pow_le_pow_right (n := 2) (i := 1) (by omega) (by omega))) fd
    · exact fits_11 bv z p w rf fz (Few.lit 1 200 2 (by decide) (Nat.pow_le_pow_right (n := 2) (i := 1) (by omega) (by omega))) fd

theorem RF.sign {w : World} {s : Bool} {b : Value} {z : Int} (h : RF w s b z) : s = decide (z < 0) := by
  obtain ⟨l, -, hc, hz, hn⟩ := h
  cases s
  · rw [iv_false] at hz
    rw [decide_eq_false (by omega)]
  · rw [iv_true] at hz
    by_cases h0 : val l = 0
    · have := hn (hc.zero h0); cases this
    · rw [decide_eq_true (by omega)]
theorem RF.list {w : World} {s : Bool} {b : Value} {z : Int} (h : RF w s b z) : ∃ l, Rd w b l ∧ Can l ∧ val l = z.natAbs := h.rc

set_option maxRecDepth 10000 in
set_option maxHeartbeats 4000000 in
theorem rcmp_l (sa sb : Bool) (ba bb : Value) (za zb z R : Int) (w : World) (ra : RF w sa ba za) (rb : RF w sb bb zb) (fa : Few za 200) (fb : Few zb 200) (fb2 : Few (-zb) 200) (hz : Hid (za + -zb = z)) (hR : Hid ((if z < 0 then -1 else if z = 0 then 0 else 1) = R)) :
    Calls Try.prog 40 #[.agg #[.bool sa, ba], .agg #[.bool sb, bb]] w fun e w' => e = .returned (.int .i64 R) ∧ Below w.heap.size w w' := by
  go_enter Try.func40, Try.ntmps40
  go_wp2_with (first
    | ((with_reducible refine at_boxD 2 32 ?_); refine L_box 32 _ ([.bool sa, ba]) rfl ?_; intro w1 t_ b_a; have l_a : w.heap.size ≤ w.heap.size := Nat.le_refl _; replace ra := ra.below t_.toBelow; replace rb := rb.below t_.toBelow; have hB : Below w.heap.size w w1 := t_.below (Below.refl _ _) (Nat.le_refl _); clear t_)
    | ((with_reducible refine at_boxD 3 32 ?_); refine L_box 32 _ ([.bool sb, bb]) rfl ?_; intro w2 t_ b_b; have l_b : w.heap.size ≤ w1.heap.size := hB.size; have o_b := b_a.lt; replace ra := ra.below t_.toBelow; replace rb := rb.below t_.toBelow; replace b_a := t_.blk b_a (by omega); replace hB := t_.below hB l_b; clear t_)
    | ((with_reducible refine stop_region 1 ?_); intro X hX))
  refine hX.out ?_
  clear hX
  refine wp_region_inv (by kernel_rfl) (by kernel_rfl) (fun t v wx => Below w2.heap.size w2 wx ∧ (t 0 = true → v 0 = .agg #[.bool sa, ba]) ∧ (t 1 = true → v 1 = .agg #[.bool sb, bb]) ∧ (t 2 = true → RN wx (v 2) (-zb)) ∧ (t 3 = true → RN wx (v 3) z) ∧ (t 4 = true → ∃ p, v 4 = .pointer (some ⟨p, 0, none⟩) ∧ p < wx.heap.size ∧ w2.heap.size ≤ p ∧ (t 5 = false → Blk wx p [.bool false, .slice none 0 0] 32) ∧ (t 5 = true → RA wx p z)) ∧ (t 5 = true → t 4 = true)) ?_ ?_ ?_
  · exact ⟨(Below.refl _ _).drew, (fun h => by cases h), (fun h => by cases h), (fun h => by cases h), (fun h => by cases h), (fun h => by cases h), (fun h => by cases h)⟩
  · simp only [full, Act.put, List.setIfInBounds_toArray, List.set_cons_succ, List.set_cons_zero, Nat.zero_add, Nat.reduceAdd]
    intro i o ho t v wx hS hti hall
    obtain ⟨hC, k0, k1, k2, k3, k4, c5⟩ := hS
    rcases i with _ | _ | _ | _ | _ | _ | i
    · obtain rfl := Option.some.inj ho
      refine g_load_all 32 _ _ _ 32 _ rfl (b_a.below hC b_a.lt) Try.underlying32 rfl szR ?_
      exact ⟨hC, newE rfl, keepE (by decide) k1, (fun h => by rw [setB_other _ _ _ (by decide)] at h; rw [setV_other _ _ _ _ (by decide)]; exact k2 h), (fun h => by rw [setB_other _ _ _ (by decide)] at h; rw [setV_other _ _ _ _ (by decide)]; exact k3 h), (fun h => by rw [setB_other _ _ _ (by decide)] at h; obtain ⟨p, e1, e2, e4, e3, e5⟩ := k4 h; refine ⟨p, by rw [setV_other _ _ _ _ (by decide)]; exact e1, e2, e4, fun h5 => ?_, fun h5 => ?_⟩ <;> rw [setB_other _ _ _ (by decide)] at h5 <;> first | exact e3 h5 | exact e5 h5), (fun h => by rw [setB_other _ _ _ (by decide)] at h ⊢; exact c5 h)⟩
    · obtain rfl := Option.some.inj ho
      refine g_load_all 32 _ _ _ 32 _ rfl (b_b.below hC b_b.lt) Try.underlying32 rfl szR ?_
      exact ⟨hC, keepE (by decide) k0, newE rfl, (fun h => by rw [setB_other _ _ _ (by decide)] at h; rw [setV_other _ _ _ _ (by decide)]; exact k2 h), (fun h => by rw [setB_other _ _ _ (by decide)] at h; rw [setV_other _ _ _ _ (by decide)]; exact k3 h), (fun h => by rw [setB_other _ _ _ (by decide)] at h; obtain ⟨p, e1, e2, e4, e3, e5⟩ := k4 h; refine ⟨p, by rw [setV_other _ _ _ _ (by decide)]; exact e1, e2, e4, fun h5 => ?_, fun h5 => ?_⟩ <;> rw [setB_other _ _ _ (by decide)] at h5 <;> first | exact e3 h5 | exact e5 h5), (fun h => by rw [setB_other _ _ _ (by decide)] at h ⊢; exact c5 h)⟩
    · obtain rfl := Option.some.inj ho
      have d1 := k1 (hall ⟨1, .data⟩ (by simp) rfl)
      refine g_call 38 _ _ [.agg #[.bool sb, bb]] (kf38 _ _) (by show ([v 1] : List Value) = _; rw [d1]) ((less_any _ zb wx ⟨_, _, rfl, rb.below hC⟩ fb).mono ?_)
      rintro e w' ⟨u_, rfl, hp, hb⟩
      exact ⟨_, rfl, hC.trans (hb.mono hC.size), keepE (by decide) k0, keepE (by decide) k1, (fun _ => by rw [setV_self]; exact hp), (fun h => by rw [setB_other _ _ _ (by decide)] at h; rw [setV_other _ _ _ _ (by decide)]; exact (k3 h).below hb), (fun h => by rw [setB_other _ _ _ (by decide)] at h; obtain ⟨p, e1, e2, e4, e3, e5⟩ := k4 h; refine ⟨p, by rw [setV_other _ _ _ _ (by decide)]; exact e1, Nat.lt_of_lt_of_le e2 hb.size, e4, fun h5 => ?_, fun h5 => ?_⟩ <;> rw [setB_other _ _ _ (by decide)] at h5 <;> first | exact (e3 h5).below hb e2 | exact (e5 h5).below hb), (fun h => by rw [setB_other _ _ _ (by decide)] at h ⊢; exact c5 h)⟩
    · obtain rfl := Option.some.inj ho
      have d0 := k0 (hall ⟨0, .data⟩ (by simp) rfl)
      have d2 := k2 (hall ⟨2, .data⟩ (by simp) rfl)
      refine g_call 37 _ _ [.agg #[.bool sa, ba], v 2] (kf37 _ _) (by show ([v 0, v 2] : List Value) = _; rw [d0]) ((radd_any _ _ za (-zb) z wx ⟨_, _, rfl, ra.below hC⟩ d2 fa fb2 hz).mono ?_)
      rintro e w' ⟨u_, rfl, hp, hb⟩
      exact ⟨_, rfl, hC.trans (hb.mono hC.size), keepE (by decide) k0, keepE (by decide) k1, (fun h => by rw [setB_other _ _ _ (by decide)] at h; rw [setV_other _ _ _ _ (by decide)]; exact (k2 h).below hb), (fun _ => by rw [setV_self]; exact hp), (fun h => by rw [setB_other _ _ _ (by decide)] at h; obtain ⟨p, e1, e2, e4, e3, e5⟩ := k4 h; refine ⟨p, by rw [setV_other _ _ _ _ (by decide)]; exact e1, Nat.lt_of_lt_of_le e2 hb.size, e4, fun h5 => ?_, fun h5 => ?_⟩ <;> rw [setB_other _ _ _ (by decide)] at h5 <;> first | exact (e3 h5).below hb e2 | exact (e5 h5).below hb), (fun h => by rw [setB_other _ _ _ (by decide)] at h ⊢; exact c5 h)⟩
    · obtain rfl := Option.some.inj ho
      refine g_alloc 32 _ zeroR (fun w' h1 h2 => ?_)
      have hb := h1.toBelow
      exact ⟨hC.trans (hb.mono hC.size), keepE (by decide) k0, keepE (by decide) k1, (fun h => by rw [setB_other _ _ _ (by decide)] at h; rw [setV_other _ _ _ _ (by decide)]; exact (k2 h).below hb), (fun h => by rw [setB_other _ _ _ (by decide)] at h; rw [setV_other _ _ _ _ (by decide)]; exact (k3 h).below hb), (fun _ => ⟨wx.heap.size, setV_self _ _ _, h2.lt, hC.size, fun _ => h2, fun h => by rw [setB_other _ _ _ (by decide)] at h; have := c5 h; rw [hti] at this; cases this⟩), (fun _ => setB_self _ _)⟩
    · obtain rfl := Option.some.inj ho
      have ht4 := hall ⟨4, .data⟩ (by simp) rfl
      obtain ⟨p, e1, e2, e4, e3, e5⟩ := k4 ht4
      obtain ⟨s8, b8, e8, r8⟩ := k3 (hall ⟨3, .data⟩ (by simp) rfl)
      refine g_store_all 32 _ _ p [.bool s8, b8] _ 32 (show v 4 = _ from e1) (show v 3 = _ from e8) (e3 hti) szR rfl (one_rc _ _ r8.sl) (fun w' h1 h2 => ?_)
      exact ⟨h1.below hC e4, keepE (by decide) k0, keepE (by decide) k1, (fun h => by rw [setB_other _ _ _ (by decide)] at h; rw [setV_other _ _ _ _ (by decide)]; exact (k2 h).turn h1 (e3 hti) (by decide)), (fun h => by rw [setB_other _ _ _ (by decide)] at h; rw [setV_other _ _ _ _ (by decide)]; exact (k3 h).turn h1 (e3 hti) (by decide)), (fun h => ⟨p, by rw [setV_other _ _ _ _ (by decide)]; exact e1, Nat.lt_of_lt_of_le e2 h1.size, e4, (fun h => by have := setB_self t 5; rw [h] at this; cases this), fun _ => ⟨_, _, h2, r8.turn h1 (e3 hti) (by decide)⟩⟩), (fun _ => by rw [setB_other _ _ _ (by decide)]; exact ht4)⟩
    · simp at ho
  · simp only [full, Act.put, List.setIfInBounds_toArray, List.set_cons_succ, List.set_cons_zero, Nat.zero_add, Nat.reduceAdd]
    intro t v wz hS ht
    obtain ⟨hC, k0, k1, k2, k3, k4, c5⟩ := hS
    obtain ⟨p, e1, -, -, -, e5⟩ := k4 (ht 4 (by decide))
    obtain ⟨s8, b8, bk, rf⟩ := e5 (ht 5 (by decide))
    rw [e1]
    clear ht k0 k1 k2 k3 k4 c5 e1 e5
    generalize v 0 = y0
    generalize v 1 = y1
    generalize v 2 = y2
    generalize v 3 = y3
    replace hB := hB.trans (hC.mono hB.size)
    have hs := rf.sign
    obtain ⟨l, rd, hc, hv⟩ := rf.list
    obtain ⟨g, cap, sp, rfl, -⟩ := id rd
    have c0 := bk.cell 0 _ rfl
    have c1 := bk.cell 1 _ rfl
    have hR' := hR.out
    clear hC ra rb b_a b_b rd
    by_cases hneg : z < 0
    · rw [decide_eq_true hneg] at hs
      subst hs
      obtain rfl : R = -1 := by rw [← hR', if_pos hneg]
      clear hR' hR
      go_wp2_with fail
      go_ret
      exact ⟨rfl, hB⟩
    · rw [decide_eq_false hneg] at hs
      subst hs
      by_cases h0 : z = 0
      · have hl : l.length = 0 := by rw [hc.zero (by omega)]; rfl
        obtain rfl : R = 0 := by rw [← hR', if_neg hneg, if_pos h0]
        rw [hl] at c1
        clear hR' hR hc hv h0 hneg bk rf
        go_wp2_with fail
        go_ret
        exact ⟨rfl, hB⟩
      · have hl : ¬ l.length = 0 := by intro h; rw [List.eq_nil_of_length_eq_zero h, val_nil] at hv; omega
        obtain rfl : R = 1 := by rw [← hR', if_neg hneg, if_neg h0]
        obtain ⟨n, hn⟩ : ∃ n, l.length = n + 1 := ⟨l.length - 1, by omega⟩
        rw [hn] at c1
        have hlt : ¬ ((n + 1 : Nat) : Int) < 1 := by omega
        have hlt2 : ¬ (n + 1 : Nat) < 1 := by omega
        clear hR' hR hc hv h0 hneg bk rf hl
        go_wp2_with fail
        all_goals go_ret
        all_goals refine ⟨?_, hB⟩
        all_goals first | rfl | (obtain rfl : n = 0 := by omega); rfl

theorem rcmp_any (u v : Value) (y z R : Int) (w : World) (hu : RN w u y) (hv : RN w v z) (fy : Few y 200) (fz : Few z 200) (hR : Hid (cmpI y z = R)) :
    Calls Try.prog 40 #[u, v] w fun e w' => e = .returned (.int .i64 R) ∧ Below w.heap.size w w' := by
  obtain ⟨sa, ba, rfl, ra⟩ := hu
  obtain ⟨sb, bb, rfl, rb⟩ := hv
  refine rcmp_l sa sb ba bb y z (y + -z) R w ra rb fy fz (by unfold Few at *; omega) rfl ?_
  show _ = _
  rw [← hR.out, cmpI]
  repeat' split
  all_goals omega

end Go.Proofs.Ytpeiboehdjhimaa
