/- What the reference's Fits answers, of numbers below 2^200. Slices of bools below a block, one that is made, and numbers of 64 bits as lists of bits: what the next texts stand on. -/
import Derived.Test.YtpenicjlpiechaaDoorQRefAdd
import Derived.Laws.OwnMore
namespace Go.Proofs.YtpenicjlpiechaaDoor.Wd
set_option maxRecDepth 10000
open Go Go.RowKit
set_option linter.unusedVariables false
theorem few_of (z : Int) (k : Nat) (m : Nat) (h : z.natAbs < 2 ^ m) (hm : m ≤ k) : Few z k := by
  unfold Few
  exact Nat.lt_of_lt_of_le h (Nat.pow_le_pow_right (by omega) hm)
theorem Few.mono {z : Int} {k m : Nat} (h : Few z m) (hm : m ≤ k) : Few z k := few_of z k m h hm
theorem Few.lit (z : Int) (k m : Nat) (h : z.natAbs < m) (hm : m ≤ 2 ^ k) : Few z k := by unfold Few; omega
theorem Few.add {y z : Int} {k : Nat} (hy : Few y k) (hz : Few z k) : Few (y + z) (k + 1) := by
  unfold Few at *
  rw [Nat.pow_succ]
  have := Int.natAbs_add_le y z
  omega

set_option maxRecDepth 10000 in
set_option maxHeartbeats 4000000 in
theorem fits_00 (g cap : Nat) (l : List Bool) (p : Nat) (w : World) (fd : decide ((l.length : Int) ≤ (p : Int)) = false) :
    Calls Tryd.prog 37 #[.agg #[.bool false, .slice (some ⟨g, 0, none⟩) l.length cap], .int .i64 (p : Nat)] w fun e w' => e = .returned (.bool false) ∧ Below w.heap.size w w' := by
  go_enter Tryd.func37, Tryd.ntmps37
  go_wp2_with (first
    | ((with_reducible refine at_boxD 2 72 ?_); refine L_box 72 _ ([.bool false, .slice (some ⟨g, 0, none⟩) l.length cap]) rfl ?_; intro w1 t_ b_a; have l_a : w.heap.size ≤ w.heap.size := Nat.le_refl _; have hB : Below w.heap.size w w1 := t_.below (Below.refl _ _) (Nat.le_refl _); clear t_)
    | ((with_reducible refine at_loadD 6 4 ?_); refine L_give (by rfl) (g_cell4 _ (w.heap.size) 0 ([.bool false, .slice (some ⟨g, 0, none⟩) l.length cap]) 72 (.bool false) rfl b_a (rfl) ?_))
    | ((with_reducible refine at_loadD 9 70 ?_); refine L_give (by rfl) (g_cell70 _ (w.heap.size) 1 ([.bool false, .slice (some ⟨g, 0, none⟩) l.length cap]) 72 (.slice (some ⟨g, 0, none⟩) l.length cap) rfl b_a (rfl) ?_))
    | ((with_reducible refine at_binD 12 ?_); refine L_give (by rfl) (g_ileq 3 _ _ .i64 _ _ false rfl rfl (fd) ?_)))
  go_ret
  exact ⟨rfl, hB⟩

set_option maxRecDepth 10000 in
set_option maxHeartbeats 4000000 in
theorem fits_01 (g cap : Nat) (l : List Bool) (p : Nat) (w : World) (fd : decide ((l.length : Int) ≤ (p : Int)) = true) :
    Calls Tryd.prog 37 #[.agg #[.bool false, .slice (some ⟨g, 0, none⟩) l.length cap], .int .i64 (p : Nat)] w fun e w' => e = .returned (.bool true) ∧ Below w.heap.size w w' := by
  go_enter Tryd.func37, Tryd.ntmps37
  go_wp2_with (first
    | ((with_reducible refine at_boxD 2 72 ?_); refine L_box 72 _ ([.bool false, .slice (some ⟨g, 0, none⟩) l.length cap]) rfl ?_; intro w1 t_ b_a; have l_a : w.heap.size ≤ w.heap.size := Nat.le_refl _; have hB : Below w.heap.size w w1 := t_.below (Below.refl _ _) (Nat.le_refl _); clear t_)
    | ((with_reducible refine at_loadD 6 4 ?_); refine L_give (by rfl) (g_cell4 _ (w.heap.size) 0 ([.bool false, .slice (some ⟨g, 0, none⟩) l.length cap]) 72 (.bool false) rfl b_a (rfl) ?_))
    | ((with_reducible refine at_loadD 9 70 ?_); refine L_give (by rfl) (g_cell70 _ (w.heap.size) 1 ([.bool false, .slice (some ⟨g, 0, none⟩) l.length cap]) 72 (.slice (some ⟨g, 0, none⟩) l.length cap) rfl b_a (rfl) ?_))
    | ((with_reducible refine at_binD 12 ?_); refine L_give (by rfl) (g_ileq 3 _ _ .i64 _ _ true rfl rfl (fd) ?_)))
  go_ret
  exact ⟨rfl, hB⟩

set_option maxRecDepth 10000 in
set_option maxHeartbeats 4000000 in
theorem fits_10 (ba : Value) (z : Int) (p : Nat) (w : World) (rf : RF w true ba z) (fz : Few z 200) (f1 : Few 1 200) (fd : ∀ l, Can l → val l = (z + 1).natAbs → decide ((l.length : Int) ≤ (p : Int)) = false) :
    Calls Tryd.prog 37 #[.agg #[.bool true, ba], .int .i64 (p : Nat)] w fun e w' => e = .returned (.bool false) ∧ Below w.heap.size w w' := by
  go_enter Tryd.func37, Tryd.ntmps37
  go_wp2_with (first
    | ((with_reducible refine at_boxD 2 72 ?_); refine L_box 72 _ ([.bool true, ba]) rfl ?_; intro w1 t_ b_a; have l_a : w.heap.size ≤ w.heap.size := Nat.le_refl _; replace rf := rf.below t_.toBelow; have hB : Below w.heap.size w w1 := t_.below (Below.refl _ _) (Nat.le_refl _); clear t_)
    | ((with_reducible refine at_loadD 6 4 ?_); refine L_give (by rfl) (g_cell4 _ (w.heap.size) 0 ([.bool true, ba]) 72 (.bool true) rfl b_a (rfl) ?_))
    | ((with_reducible refine stop_region 3 ?_); intro X1 hX1))
  refine hX1.out ?_
  clear hX1
  refine wp_region_pred (by kernel_rfl) (by kernel_rfl) [.eq (.agg #[.bool true, ba]), .rn (1), .rn (z + 1), .rc ((z + 1).natAbs), .ln ((z + 1).natAbs), .eq (.int .i64 ((p : Nat))), .eq (.bool false), .eq (.bool false)] (List.replicate 8 none) (fun wx => Below w1.heap.size w1 wx) ?_ ?_ ?_ ?_
  · exact nobs _ _
  · exact (Below.refl _ _).drew
  · simp only [full, Act.put, List.setIfInBounds_toArray, List.set_cons_succ, List.set_cons_zero, Nat.zero_add, Nat.reduceAdd]
    intro i o ho v wx hC hall
    rcases i with _ | _ | _ | _ | _ | _ | _ | _ | i
    · obtain rfl := Option.some.inj ho
      refine gw rfl (g_load_all 72 _ (w.heap.size) ([.bool true, ba]) 72 _ rfl (b_a.below hC b_a.lt) Tryd.underlying72 rfl (szR) ?_)
      exact ⟨own_pd _ rfl rfl, hC, Below.refl _ _⟩
    · obtain rfl := Option.some.inj ho
      refine gw rfl (g_call 36 _ _ [.int .i64 (1)] (kf36 _ _) (rfl) ((rof_any 1 wx (by unfold In64; omega)).mono ?_))
      rintro e w' ⟨u_, rfl, hp, hb⟩
      exact ⟨_, rfl, own_pd _ rfl hp, hC.trans (hb.mono hC.size), hb⟩
    · obtain rfl := Option.some.inj ho
      have d0 : v 0 = .agg #[.bool true, ba] := hall ⟨0, .data⟩ (by simp) rfl _ rfl
      have d1 : RN wx (v 1) (1) := hall ⟨1, .data⟩ (by simp) rfl _ rfl
      refine gw rfl (g_call 33 _ _ [.agg #[.bool true, ba], v 1] (kf33 _ _) (by show ([v 0, v 1] : List Value) = _; rw [d0]; (try rfl)) ((radd_any _ _ z 1 (z + 1) wx ⟨_, _, rfl, rf.below hC⟩ d1 fz f1 (by show _ = _; rfl)).mono ?_))
      rintro e w' ⟨u_, rfl, hp, hb⟩
      exact ⟨_, rfl, own_pd _ rfl hp, hC.trans (hb.mono hC.size), hb⟩
    · obtain rfl := Option.some.inj ho
      have d2 : RN wx (v 2) (z + 1) := hall ⟨2, .data⟩ (by simp) rfl _ rfl
      obtain ⟨s8, b8, e8, r8⟩ := d2
      refine gw rfl (g_field _ s8 b8 (show v 2 = _ from e8) ?_)
      exact ⟨own_pd _ rfl r8.rc, hC, Below.refl _ _⟩
    · obtain rfl := Option.some.inj ho
      have d3 : RC wx (v 3) ((z + 1).natAbs) := hall ⟨3, .data⟩ (by simp) rfl _ rfl
      obtain ⟨l8, r8, c8, v8⟩ := d3
      obtain ⟨g8, cap8, sp8, e8, -⟩ := r8
      refine gw rfl (g_len _ _ _ _ (show v 3 = _ from e8) ?_)
      exact ⟨own_pd _ rfl ⟨l8, c8, v8, rfl⟩, hC, Below.refl _ _⟩
    · obtain rfl := Option.some.inj ho
      refine gw rfl (g_move _ _ rfl ?_)
      exact ⟨own_pd _ rfl rfl, hC, Below.refl _ _⟩
    · obtain rfl := Option.some.inj ho
      have d4 : ∃ l, Can l ∧ val l = (z + 1).natAbs ∧ v 4 = .int .i64 (l.length : Nat) := hall ⟨4, .data⟩ (by simp) rfl _ rfl
      have d5 : v 5 = .int .i64 ((p : Nat)) := hall ⟨5, .data⟩ (by simp) rfl _ rfl
      obtain ⟨l8, c8, v8, e8⟩ := d4
      refine gw rfl (g_ileq 3 _ _ .i64 _ _ false (show v 4 = _ from e8) (show v 5 = _ from d5) (fd l8 c8 v8) ?_)
      exact ⟨own_pd _ rfl rfl, hC, Below.refl _ _⟩
    · obtain rfl := Option.some.inj ho
      have d6 : v 6 = .bool false := hall ⟨6, .data⟩ (by simp) rfl _ rfl
      refine gw rfl (g_assign _ _ (show v 6 = _ from d6) ?_)
      exact ⟨own_pd _ rfl rfl, hC, Below.refl _ _⟩
    · simp at ho
  · simp only [full, Act.put, List.setIfInBounds_toArray, List.set_cons_succ, List.set_cons_zero, Nat.zero_add, Nat.reduceAdd]
    intro v w2 hC hall
    have d0 : v 0 = .agg #[.bool true, ba] := hall 0 _ (by decide) rfl
    (try rw [d0])
    clear d0
    generalize v 1 = y1_1
    generalize v 2 = y1_2
    generalize v 3 = y1_3
    generalize v 4 = y1_4
    have d5 : v 5 = .int .i64 ((p : Nat)) := hall 5 _ (by decide) rfl
    (try rw [d5])
    clear d5
    have d6 : v 6 = .bool false := hall 6 _ (by decide) rfl
    (try rw [d6])
    clear d6
    have d7 : v 7 = .bool false := hall 7 _ (by decide) rfl
    (try rw [d7])
    clear d7
    clear hall
    replace rf := rf.below hC
    replace b_a := b_a.below hC b_a.lt
    replace hB := hB.trans (hC.mono hB.size)
    clear hC
    go_wp2_with fail
    go_ret
    exact ⟨rfl, hB⟩

set_option maxRecDepth 10000 in
set_option maxHeartbeats 4000000 in
theorem fits_11 (ba : Value) (z : Int) (p : Nat) (w : World) (rf : RF w true ba z) (fz : Few z 200) (f1 : Few 1 200) (fd : ∀ l, Can l → val l = (z + 1).natAbs → decide ((l.length : Int) ≤ (p : Int)) = true) :
    Calls Tryd.prog 37 #[.agg #[.bool true, ba], .int .i64 (p : Nat)] w fun e w' => e = .returned (.bool true) ∧ Below w.heap.size w w' := by
  go_enter Tryd.func37, Tryd.ntmps37
  go_wp2_with (first
    | ((with_reducible refine at_boxD 2 72 ?_); refine L_box 72 _ ([.bool true, ba]) rfl ?_; intro w1 t_ b_a; have l_a : w.heap.size ≤ w.heap.size := Nat.le_refl _; replace rf := rf.below t_.toBelow; have hB : Below w.heap.size w w1 := t_.below (Below.refl _ _) (Nat.le_refl _); clear t_)
    | ((with_reducible refine at_loadD 6 4 ?_); refine L_give (by rfl) (g_cell4 _ (w.heap.size) 0 ([.bool true, ba]) 72 (.bool true) rfl b_a (rfl) ?_))
    | ((with_reducible refine stop_region 3 ?_); intro X1 hX1))
  refine hX1.out ?_
  clear hX1
  refine wp_region_pred (by kernel_rfl) (by kernel_rfl) [.eq (.agg #[.bool true, ba]), .rn (1), .rn (z + 1), .rc ((z + 1).natAbs), .ln ((z + 1).natAbs), .eq (.int .i64 ((p : Nat))), .eq (.bool true), .eq (.bool true)] (List.replicate 8 none) (fun wx => Below w1.heap.size w1 wx) ?_ ?_ ?_ ?_
  · exact nobs _ _
  · exact (Below.refl _ _).drew
  · simp only [full, Act.put, List.setIfInBounds_toArray, List.set_cons_succ, List.set_cons_zero, Nat.zero_add, Nat.reduceAdd]
    intro i o ho v wx hC hall
    rcases i with _ | _ | _ | _ | _ | _ | _ | _ | i
    · obtain rfl := Option.some.inj ho
      refine gw rfl (g_load_all 72 _ (w.heap.size) ([.bool true, ba]) 72 _ rfl (b_a.below hC b_a.lt) Tryd.underlying72 rfl (szR) ?_)
      exact ⟨own_pd _ rfl rfl, hC, Below.refl _ _⟩
    · obtain rfl := Option.some.inj ho
      refine gw rfl (g_call 36 _ _ [.int .i64 (1)] (kf36 _ _) (rfl) ((rof_any 1 wx (by unfold In64; omega)).mono ?_))
      rintro e w' ⟨u_, rfl, hp, hb⟩
      exact ⟨_, rfl, own_pd _ rfl hp, hC.trans (hb.mono hC.size), hb⟩
    · obtain rfl := Option.some.inj ho
      have d0 : v 0 = .agg #[.bool true, ba] := hall ⟨0, .data⟩ (by simp) rfl _ rfl
      have d1 : RN wx (v 1) (1) := hall ⟨1, .data⟩ (by simp) rfl _ rfl
      refine gw rfl (g_call 33 _ _ [.agg #[.bool true, ba], v 1] (kf33 _ _) (by show ([v 0, v 1] : List Value) = _; rw [d0]; (try rfl)) ((radd_any _ _ z 1 (z + 1) wx ⟨_, _, rfl, rf.below hC⟩ d1 fz f1 (by show _ = _; rfl)).mono ?_))
      rintro e w' ⟨u_, rfl, hp, hb⟩
      exact ⟨_, rfl, own_pd _ rfl hp, hC.trans (hb.mono hC.size), hb⟩
    · obtain rfl := Option.some.inj ho
      have d2 : RN wx (v 2) (z + 1) := hall ⟨2, .data⟩ (by simp) rfl _ rfl
      obtain ⟨s8, b8, e8, r8⟩ := d2
      refine gw rfl (g_field _ s8 b8 (show v 2 = _ from e8) ?_)
      exact ⟨own_pd _ rfl r8.rc, hC, Below.refl _ _⟩
    · obtain rfl := Option.some.inj ho
      have d3 : RC wx (v 3) ((z + 1).natAbs) := hall ⟨3, .data⟩ (by simp) rfl _ rfl
      obtain ⟨l8, r8, c8, v8⟩ := d3
      obtain ⟨g8, cap8, sp8, e8, -⟩ := r8
      refine gw rfl (g_len _ _ _ _ (show v 3 = _ from e8) ?_)
      exact ⟨own_pd _ rfl ⟨l8, c8, v8, rfl⟩, hC, Below.refl _ _⟩
    · obtain rfl := Option.some.inj ho
      refine gw rfl (g_move _ _ rfl ?_)
      exact ⟨own_pd _ rfl rfl, hC, Below.refl _ _⟩
    · obtain rfl := Option.some.inj ho
      have d4 : ∃ l, Can l ∧ val l = (z + 1).natAbs ∧ v 4 = .int .i64 (l.length : Nat) := hall ⟨4, .data⟩ (by simp) rfl _ rfl
      have d5 : v 5 = .int .i64 ((p : Nat)) := hall ⟨5, .data⟩ (by simp) rfl _ rfl
      obtain ⟨l8, c8, v8, e8⟩ := d4
      refine gw rfl (g_ileq 3 _ _ .i64 _ _ true (show v 4 = _ from e8) (show v 5 = _ from d5) (fd l8 c8 v8) ?_)
      exact ⟨own_pd _ rfl rfl, hC, Below.refl _ _⟩
    · obtain rfl := Option.some.inj ho
      have d6 : v 6 = .bool true := hall ⟨6, .data⟩ (by simp) rfl _ rfl
      refine gw rfl (g_assign _ _ (show v 6 = _ from d6) ?_)
      exact ⟨own_pd _ rfl rfl, hC, Below.refl _ _⟩
    · simp at ho
  · simp only [full, Act.put, List.setIfInBounds_toArray, List.set_cons_succ, List.set_cons_zero, Nat.zero_add, Nat.reduceAdd]
    intro v w2 hC hall
    have d0 : v 0 = .agg #[.bool true, ba] := hall 0 _ (by decide) rfl
    (try rw [d0])
    clear d0
    generalize v 1 = y1_1
    generalize v 2 = y1_2
    generalize v 3 = y1_3
    generalize v 4 = y1_4
    have d5 : v 5 = .int .i64 ((p : Nat)) := hall 5 _ (by decide) rfl
    (try rw [d5])
    clear d5
    have d6 : v 6 = .bool true := hall 6 _ (by decide) rfl
    (try rw [d6])
    clear d6
    have d7 : v 7 = .bool true := hall 7 _ (by decide) rfl
    (try rw [d7])
    clear d7
    clear hall
    replace rf := rf.below hC
    replace b_a := b_a.below hC b_a.lt
    replace hB := hB.trans (hC.mono hB.size)
    clear hC
    go_wp2_with fail
    go_ret
    exact ⟨rfl, hB⟩

theorem pow_cast (p : Nat) : ((2 : Int) ^ p) = ((2 ^ p : Nat) : Int) := by rw [Int.natCast_pow]; rfl
theorem fits_any (u : Value) (z : Int) (p : Nat) (w : World) (b : Bool) (hu : RN w u z) (fz : Few z 200) (hb : Hid (decide (-((2 : Int) ^ p) ≤ z ∧ z < (2 : Int) ^ p) = b)) :
    Calls Tryd.prog 37 #[u, .int .i64 (p : Nat)] w fun e w' => e = .returned (.bool b) ∧ Below w.heap.size w w' := by
  obtain ⟨s, bv, rfl, rf⟩ := hu
  have hb' := hb.out
  rw [pow_cast] at hb'
  have hpos : 0 < 2 ^ p := Nat.two_pow_pos p
  cases s
  · obtain ⟨l, rd, hc, hz, -, hl⟩ := rf.len fz
    obtain ⟨g, cap, sp, rfl, -⟩ := id rd
    rw [iv_false] at hz
    have hlen := hc.len p
    have fd : decide ((l.length : Int) ≤ (p : Int)) = b := by
      rw [← hb']
      congr 1
      apply propext
      rw [hz]
      constructor
      · intro h
        have := hlen.1 (by omega)
        omega
      · intro h
        have := hlen.2 (by omega)
        omega
    cases b
    · exact fits_00 g cap l p w fd
    · exact fits_01 g cap l p w fd
  · have fd : ∀ l, Can l → val l = (z + 1).natAbs → decide ((l.length : Int) ≤ (p : Int)) = b := by
      intro l hc hv
      obtain ⟨l0, -, -, hz, hnil⟩ := id rf
      rw [iv_true] at hz
      have hlen := hc.len p
      rw [hv] at hlen
      have hz0 : z < 0 := by
        by_cases h0 : val l0 = 0
        · obtain ⟨l1, -, hc1, hz1, hnil1⟩ := id rf
          rw [iv_true] at hz1
          have := hnil1 (hc1.zero (by omega))
          cases this
        · omega
      rw [← hb']
      congr 1
      apply propext
      constructor
      · intro h
        have := hlen.1 (by omega)
        omega
      · intro h
        have := hlen.2 (by omega)
        omega
    cases b
    · exact fits_10 bv z p w rf fz (Few.lit 1 200 2 (by decide) (Nat.pow_le_pow_right (n := 2) (i := 1) (by omega) (by omega))) fd
    · exact fits_11 bv z p w rf fz (Few.lit 1 200 2 (by decide) (Nat.pow_le_pow_right (n := 2) (i := 1) (by omega) (by omega))) fd

theorem RF.sign {w : World} {s : Bool} {b : Value} {z : Int} (h : RF w s b z) : s = decide (z < 0) := by
  obtain ⟨l, -, hc, hz, hn⟩ := h
  cases s
  · rw [iv_false] at hz
    rw [decide_eq_false (by omega)]
  · rw [iv_true] at hz
    by_cases h0 : val l = 0
    · have := hn (hc.zero h0); cases this
    · rw [decide_eq_true (by omega)]
theorem RF.list {w : World} {s : Bool} {b : Value} {z : Int} (h : RF w s b z) : ∃ l, Rd w b l ∧ Can l ∧ val l = z.natAbs := h.rc

end Go.Proofs.YtpenicjlpiechaaDoor.Wd
namespace Go.Proofs.YtpenicjlpiechaaDoor.Wd
set_option maxRecDepth 10000
open Go Go.RowKit
set_option linter.unusedVariables false
/-- A slice that reads as l, in a block below B. -/
def RdL (w : World) (B : Nat) (v : Value) (l : List Bool) : Prop := ∃ g cap sp, g < B ∧ v = .slice (some ⟨g, 0, none⟩) l.length cap ∧ l.length ≤ cap ∧ cap ≤ 9223372036854775807 ∧ cap ≤ l.length + List.length sp ∧ Blk w g (bl l ++ sp) 4
theorem RdL.rd {w : World} {B : Nat} {v : Value} {l : List Bool} (h : RdL w B v l) : Rd w v l := by
  obtain ⟨g, cap, sp, -, h⟩ := h
  exact ⟨g, cap, sp, h⟩
theorem RdL.below {w w' : World} {B : Nat} {v : Value} {l : List Bool} (h : RdL w B v l) (hb : Below B w w') : RdL w' B v l := by
  obtain ⟨g, cap, sp, h0, e, h1, h2, h3, h4⟩ := h
  exact ⟨g, cap, sp, h0, e, h1, h2, h3, h4.below hb h0⟩
theorem RdL.turn {w w' : World} {B : Nat} {v : Value} {l : List Bool} {b : Nat} {cs : List Value} {t : TypeId} (h : RdL w B v l) (ht : Turn b w w') (hb : Blk w b cs t) (hn : t ≠ 4) : RdL w' B v l := by
  obtain ⟨g, cap, sp, h0, e, h1, h2, h3, h4⟩ := h
  obtain ⟨g', cap', sp', e', -, -, -, h4'⟩ := Rd.turn ⟨g, cap, sp, e, h1, h2, h3, h4⟩ ht hb hn
  refine ⟨g, cap, sp, h0, e, h1, h2, h3, ht.blk h4 ?_⟩
  rintro rfl
  unfold Blk at h4 hb
  rw [h4] at hb
  simp only [Option.some.injEq, Obj.cells.injEq] at hb
  exact hn hb.2.1.symm
section
variable {a : Act} {w : World} {dst : Option Tmp} {ty : TypeId} {pos : String} {aft : Array Edge} {gd : Option (Nat × Bool)} {K : Value → World → Prop}
theorem g_make (x y : Operand) (n B : Nat) (hx : a.eval x = .int .i64 (n : Nat)) (hy : a.eval y = .int .i64 (n : Nat)) (hn : n ≤ 100000) (hB : B ≤ w.heap.size)
    (h : ∀ w', Own w' B (.slice (some ⟨w.heap.size, 0, none⟩) n n) (List.replicate n false) → Below w.heap.size w w' → K (.slice (some ⟨w.heap.size, 0, none⟩) n n) w') :
    gives Tryd.prog ⟨dst, .makeSlice 70 x y, ty, pos, aft, gd⟩ a w K := by
  obtain ⟨i, hi, he⟩ : ∃ i, Tryd.prog.info? 4 = some i ∧ (i.zero, i.size, i.bytes) = (some (.bool false), 1, 1) := by
    have h := info4
    cases hi : Tryd.prog.info? 4 with
    | none => rw [hi] at h; cases h
    | some i => rw [hi] at h; exact ⟨i, rfl, Option.some.inj h⟩
  have hby : i.bytes = 1 := congrArg (·.2.2) he
  obtain ⟨w', hrun, r1, r2⟩ := run_make_full (P := Tryd.prog) w B 70 4 i (.bool false) 1 Tryd.underlying70 hi (congrArg (·.1) he) (congrArg (·.2.1) he) .i64 .i64 n (by rw [hby]; omega) (by unfold maxLen; omega) hB
  refine g_val _ w' (by simp [execOp, hx, hy, hrun, Result.andThen]) (h w' ?_ ⟨r2.os, r2.tape, r2.output, r2.size, fun k hk => r2.block k hk (by intro e; cases e)⟩)
  have e : (madeCells (Value.bool false).cells (n * 1)).toList = bl (List.replicate n false) := by
    rw [Nat.mul_one]
    rw [show (madeCells (Value.bool false).cells n).toList = List.replicate n (.bool false) from toList_madeCells_one _ _]
    simp [bl]
  rw [e] at r1
  unfold Own
  rw [List.length_replicate]
  exact r1
end

end Go.Proofs.YtpenicjlpiechaaDoor.Wd
