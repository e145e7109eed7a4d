/- What the reference's whole and shows answer (numbers below 2^200; clocks and moments of 64 bits); nothing that was there is changed. -/
import Derived.Test.YtcllmobjdnhmlaaRefDiv
import Derived.Test.YtcllmobjdnhmlaaDrM
namespace Go.Proofs.Ytcllmobjdnhmlaa
open Go Go.RowKit
set_option linter.unusedVariables false

/-- A pair of numbers of the reference. -/
def RP (w : World) (u : Value) (y z : Int) : Prop := ∃ a b, u = .tuple #[a, b] ∧ RN w a y ∧ RN w b z
theorem RP.below {w w' : World} {u : Value} {y z : Int} (h : RP w u y z) (hb : Below w.heap.size w w') : RP w' u y z := by
  obtain ⟨a, b, h1, h2, h3⟩ := h
  exact ⟨a, b, h1, h2.below hb, h3.below hb⟩
theorem RP.turn {w w' : World} {u : Value} {y z : Int} {b : Nat} {cs : List Value} {t : TypeId} (h : RP w u y z) (ht : Turn b w w') (hb : Blk w b cs t) (hn : t ≠ 4) : RP w' u y z := by
  obtain ⟨a, c, h1, h2, h3⟩ := h
  exact ⟨a, c, h1, h2.turn ht hb hn, h3.turn ht hb hn⟩
theorem fit63 (z : Int) (h : In64 z) : Hid (decide (-((2 : Int) ^ 63) ≤ z ∧ z < (2 : Int) ^ 63) = true) := decide_eq_true h
theorem nofit63 (z : Int) (h : ¬ In64 z) : Hid (decide (-((2 : Int) ^ 63) ≤ z ∧ z < (2 : Int) ^ 63) = false) := decide_eq_false h

set_option maxRecDepth 10000 in
set_option maxHeartbeats 4000000 in
theorem rwhole_in (sa : Bool) (ba : Value) (z h l : Int) (w : World) (ra : RF w sa ba z) (fz : Few z 200) (iz : In128 z) (hh : Hid (z / 18446744073709551616 = h)) (hl : Hid (z % 18446744073709551616 = l)) (hw_ : Hid (IntKind.i64.wrap l = z)) (hfi : Hid (decide (-((2 : Int) ^ 63) ≤ z ∧ z < (2 : Int) ^ 63) = true)) :
    Calls Try.prog 28 #[.agg #[.bool sa, ba]] w fun e w' => e = .returned (.tuple #[.int .i64 (z), .int .i64 (0)]) ∧ Below w.heap.size w w' := by
  go_enter Try.func28, Try.ntmps28
  go_wp2_with (first
    | ((with_reducible refine at_boxD 1 54 ?_); refine L_box 54 _ ([.bool sa, ba]) rfl ?_; intro w1 t_ b_n; have l_n : w.heap.size ≤ w.heap.size := Nat.le_refl _; replace ra := ra.below t_.toBelow; have hB : Below w.heap.size w w1 := t_.below (Below.refl _ _) (Nat.le_refl _); clear t_)
    | ((with_reducible refine at_loadD 6 54 ?_); refine L_load_all 54 _ (w.heap.size) ([.bool sa, ba]) 54 _ rfl b_n Try.underlying54 rfl (szR) ?_))
  refine (fits_any _ z 63 w1 true ⟨_, _, rfl, ra⟩ fz hfi).mono ?_
  rintro e w2 ⟨rfl, t_⟩
  replace ra := ra.below t_
  replace b_n := b_n.below t_ b_n.lt
  replace hB := hB.trans (t_.mono hB.size)
  clear t_
  go_wp2_with (first
    | ((with_reducible refine at_loadD 10 54 ?_); refine L_load_all 54 _ (w.heap.size) ([.bool sa, ba]) 54 _ rfl b_n Try.underlying54 rfl (szR) ?_))
  refine (wide_any _ z h l w2 ⟨_, _, rfl, ra⟩ iz hh hl).mono ?_
  rintro e w3 ⟨rfl, t_⟩
  replace ra := ra.below t_
  replace b_n := b_n.below t_ b_n.lt
  replace hB := hB.trans (t_.mono hB.size)
  clear t_
  go_wp2_with (first
    | ((with_reducible refine at_cnv 15 ?_); refine L_give (by rfl) (g_cv64 _ _ _ rfl hw_.out ?_)))
  go_ret2
  exact ⟨rfl, hB⟩

set_option maxRecDepth 10000 in
set_option maxHeartbeats 4000000 in
theorem rwhole_out (sa : Bool) (ba : Value) (z : Int) (w : World) (ra : RF w sa ba z) (fz : Few z 200) (hfi : Hid (decide (-((2 : Int) ^ 63) ≤ z ∧ z < (2 : Int) ^ 63) = false)) :
    Calls Try.prog 28 #[.agg #[.bool sa, ba]] w fun e w' => e = .returned (.tuple #[.int .i64 (0), .int .i64 (6)]) ∧ Below w.heap.size w w' := by
  go_enter Try.func28, Try.ntmps28
  go_wp2_with (first
    | ((with_reducible refine at_boxD 1 54 ?_); refine L_box 54 _ ([.bool sa, ba]) rfl ?_; intro w1 t_ b_n; have l_n : w.heap.size ≤ w.heap.size := Nat.le_refl _; replace ra := ra.below t_.toBelow; have hB : Below w.heap.size w w1 := t_.below (Below.refl _ _) (Nat.le_refl _); clear t_)
    | ((with_reducible refine at_loadD 6 54 ?_); refine L_load_all 54 _ (w.heap.size) ([.bool sa, ba]) 54 _ rfl b_n Try.underlying54 rfl (szR) ?_))
  refine (fits_any _ z 63 w1 false ⟨_, _, rfl, ra⟩ fz hfi).mono ?_
  rintro e w2 ⟨rfl, t_⟩
  replace ra := ra.below t_
  replace b_n := b_n.below t_ b_n.lt
  replace hB := hB.trans (t_.mono hB.size)
  clear t_
  go_wp2_with fail
  go_ret2
  exact ⟨rfl, hB⟩

theorem rwhole_any (u : Value) (z V E : Int) (w : World) (hu : RN w u z) (fz : Few z 200) (h : Hid (wh z = (V, E))) :
    Calls Try.prog 28 #[u] w fun e w' => e = .returned (.tuple #[.int .i64 V, .int .i64 E]) ∧ Below w.heap.size w w' := by
  obtain ⟨sa, ba, rfl, ra⟩ := hu
  have h := h.out
  by_cases hz : In64 z
  · rw [wh_in z hz] at h
    cases h
    have hz' := hz
    unfold In64 at hz'
    exact rwhole_in sa ba z _ _ w ra fz hz.to rfl rfl (by show _ = _; rw [IntKind.wrap_i64]; omega) (fit63 z hz)
  · rw [wh_out z hz] at h
    cases h
    exact rwhole_out sa ba z w ra fz (nofit63 z hz)

set_option maxRecDepth 10000 in
set_option maxHeartbeats 4000000 in
theorem rshows_l (f s r T n P X Y : Int) (w : World) (hf : In64 f) (hs : In64 s) (hr : In64 r) (ht : In64 T) (hn : Hid (T + -f = n)) (hP : Hid (n * r = P)) (hX : Hid (n + P / 1000000000 = X)) (hY : Hid (s + X = Y)) (j9 : In64 1000000000) (ff : Few f 200) (ft : Few T 200) (fnf : Few (-f) 200) (fn : Few n 200) (fr : Few r 200) (fP : Few P 200) (f9 : Few 1000000000 200) (fQ : Few (P / 1000000000) 200) (fs : Few s 200) (fX : Few X 200) :
    Calls Try.prog 29 #[.agg (cl f s r).toArray, .int .i64 T] w fun e w' => ∃ u, e = .returned u ∧ RN w' u Y ∧ Below w.heap.size w w' := by
  go_enter Try.func29, Try.ntmps29
  go_wp2_with (first
    | ((with_reducible refine at_boxD 2 25 ?_); refine L_box 25 _ (cl (f) (s) (r)) rfl ?_; intro w1 t_ b_c; have l_c : w.heap.size ≤ w.heap.size := Nat.le_refl _; have hB : Below w.heap.size w w1 := t_.below (Below.refl _ _) (Nat.le_refl _); clear t_)
    | ((with_reducible refine at_allocD 4 54 ?_); refine L_alloc 54 ([.bool false, .slice none 0 0]) zeroR ?_; intro w2 t_ b_r; have l_r : w.heap.size ≤ w1.heap.size := hB.size; have o_r := b_c.lt; replace b_c := t_.blk b_c (by omega); replace hB := t_.below hB l_r; clear t_)
    | ((with_reducible refine stop_region 1 ?_); intro X1 hX1))
  refine hX1.out ?_
  clear hX1
  have hB0 : w2.heap.size ≤ w2.heap.size := Nat.le_refl _
  have lt_c := b_c.lt
  have lt_r := b_r.lt
  refine wp_region_inv (by kernel_rfl) (by kernel_rfl) (fun t v wx => Below w2.heap.size w2 wx ∧ (t 0 = true → v 0 = .int .i64 (T)) ∧ (t 1 = true → RN wx (v 1) (T)) ∧ (t 2 = true → v 2 = .pointer (some ⟨w.heap.size, 0, none⟩)) ∧ (t 3 = true → v 3 = .int .i64 (f)) ∧ (t 4 = true → RN wx (v 4) (f)) ∧ (t 5 = true → RN wx (v 5) (-f)) ∧ (t 6 = true → RN wx (v 6) (n)) ∧ (t 7 = true → ∃ p, v 7 = .pointer (some ⟨p, 0, none⟩) ∧ p < wx.heap.size ∧ w2.heap.size ≤ p ∧ (t 8 = false → Blk wx p [.bool false, .slice none 0 0] 54) ∧ (t 8 = true → RA wx (p) (n))) ∧ (t 8 = true → t 7 = true)) ?_ ?_ ?_
  · exact ⟨(Below.refl _ _).drew, (fun h => by cases h), (fun h => by cases h), (fun h => by cases h), (fun h => by cases h), (fun h => by cases h), (fun h => by cases h), (fun h => by cases h), (fun h => by cases h), (fun h => by cases h)⟩
  · simp only [full, Act.put, List.setIfInBounds_toArray, List.set_cons_succ, List.set_cons_zero, Nat.zero_add, Nat.reduceAdd]
    intro i o ho t v wx hS hti hall
    obtain ⟨hC, k0, k1, k2, k3, k4, k5, k6, k7, k8⟩ := hS
    have hnw : w2.heap.size ≤ wx.heap.size := Nat.le_trans hB0 hC.size
    rcases i with _ | _ | _ | _ | _ | _ | _ | _ | _ | i
    · obtain rfl := Option.some.inj ho
      refine g_move _ _ rfl ?_
      exact ⟨hC, newE rfl, (fun h => by rw [setB_other _ _ _ (by decide)] at h; rw [setV_other _ _ _ _ (by decide)]; exact k1 h), keepE (by decide) k2, keepE (by decide) k3, (fun h => by rw [setB_other _ _ _ (by decide)] at h; rw [setV_other _ _ _ _ (by decide)]; exact k4 h), (fun h => by rw [setB_other _ _ _ (by decide)] at h; rw [setV_other _ _ _ _ (by decide)]; exact k5 h), (fun h => by rw [setB_other _ _ _ (by decide)] at h; rw [setV_other _ _ _ _ (by decide)]; exact k6 h), (fun h => by rw [setB_other _ _ _ (by decide)] at h; obtain ⟨p', f1, f2, f4, f3, f5⟩ := k7 h; refine ⟨p', by rw [setV_other _ _ _ _ (by decide)]; exact f1, f2, f4, fun h5 => ?_, fun h5 => ?_⟩ <;> rw [setB_other _ _ _ (by decide)] at h5 <;> first | exact f3 h5 | exact f5 h5), (fun h => by rw [setB_other _ _ _ (by decide)] at h ⊢; exact k8 h)⟩
    · obtain rfl := Option.some.inj ho
      have d0 := k0 (hall ⟨0, .data⟩ (by simp) rfl)
      refine g_call 26 _ _ [.int .i64 (T)] (kf26 _ _) (by show ([v 0] : List Value) = _; rw [d0]; (try rfl)) ((rof_any T wx ht).mono ?_)
      rintro e w' ⟨u_, rfl, hp, hb⟩
      exact ⟨_, rfl, hC.trans (hb.mono hnw), keepE (by decide) k0, (fun _ => by rw [setV_self]; exact hp), keepE (by decide) k2, keepE (by decide) k3, (fun h => by rw [setB_other _ _ _ (by decide)] at h; rw [setV_other _ _ _ _ (by decide)]; exact (k4 h).below hb), (fun h => by rw [setB_other _ _ _ (by decide)] at h; rw [setV_other _ _ _ _ (by decide)]; exact (k5 h).below hb), (fun h => by rw [setB_other _ _ _ (by decide)] at h; rw [setV_other _ _ _ _ (by decide)]; exact (k6 h).below hb), (fun h => by rw [setB_other _ _ _ (by decide)] at h; obtain ⟨p', f1, f2, f4, f3, f5⟩ := k7 h; refine ⟨p', by rw [setV_other _ _ _ _ (by decide)]; exact f1, Nat.lt_of_lt_of_le f2 hb.size, f4, fun h5 => ?_, fun h5 => ?_⟩ <;> rw [setB_other _ _ _ (by decide)] at h5 <;> first | exact (f3 h5).below hb f2 | exact (f5 h5).below hb), (fun h => by rw [setB_other _ _ _ (by decide)] at h ⊢; exact k8 h)⟩
    · obtain rfl := Option.some.inj ho
      refine g_fK0 _ _ rfl ?_
      exact ⟨hC, keepE (by decide) k0, (fun h => by rw [setB_other _ _ _ (by decide)] at h; rw [setV_other _ _ _ _ (by decide)]; exact k1 h), newE rfl, keepE (by decide) k3, (fun h => by rw [setB_other _ _ _ (by decide)] at h; rw [setV_other _ _ _ _ (by decide)]; exact k4 h), (fun h => by rw [setB_other _ _ _ (by decide)] at h; rw [setV_other _ _ _ _ (by decide)]; exact k5 h), (fun h => by rw [setB_other _ _ _ (by decide)] at h; rw [setV_other _ _ _ _ (by decide)]; exact k6 h), (fun h => by rw [setB_other _ _ _ (by decide)] at h; obtain ⟨p', f1, f2, f4, f3, f5⟩ := k7 h; refine ⟨p', by rw [setV_other _ _ _ _ (by decide)]; exact f1, f2, f4, fun h5 => ?_, fun h5 => ?_⟩ <;> rw [setB_other _ _ _ (by decide)] at h5 <;> first | exact f3 h5 | exact f5 h5), (fun h => by rw [setB_other _ _ _ (by decide)] at h ⊢; exact k8 h)⟩
    · obtain rfl := Option.some.inj ho
      have d2 := k2 (hall ⟨2, .data⟩ (by simp) rfl)
      refine g_cell2 _ (w.heap.size) 0 (cl (f) (s) (r)) 25 _ (show v 2 = _ from d2) (b_c.below hC b_c.lt) (rfl) ?_
      exact ⟨hC, keepE (by decide) k0, (fun h => by rw [setB_other _ _ _ (by decide)] at h; rw [setV_other _ _ _ _ (by decide)]; exact k1 h), keepE (by decide) k2, newE rfl, (fun h => by rw [setB_other _ _ _ (by decide)] at h; rw [setV_other _ _ _ _ (by decide)]; exact k4 h), (fun h => by rw [setB_other _ _ _ (by decide)] at h; rw [setV_other _ _ _ _ (by decide)]; exact k5 h), (fun h => by rw [setB_other _ _ _ (by decide)] at h; rw [setV_other _ _ _ _ (by decide)]; exact k6 h), (fun h => by rw [setB_other _ _ _ (by decide)] at h; obtain ⟨p', f1, f2, f4, f3, f5⟩ := k7 h; refine ⟨p', by rw [setV_other _ _ _ _ (by decide)]; exact f1, f2, f4, fun h5 => ?_, fun h5 => ?_⟩ <;> rw [setB_other _ _ _ (by decide)] at h5 <;> first | exact f3 h5 | exact f5 h5), (fun h => by rw [setB_other _ _ _ (by decide)] at h ⊢; exact k8 h)⟩
    · obtain rfl := Option.some.inj ho
      have d3 := k3 (hall ⟨3, .data⟩ (by simp) rfl)
      refine g_call 26 _ _ [.int .i64 (f)] (kf26 _ _) (by show ([v 3] : List Value) = _; rw [d3]; (try rfl)) ((rof_any f wx hf).mono ?_)
      rintro e w' ⟨u_, rfl, hp, hb⟩
      exact ⟨_, rfl, hC.trans (hb.mono hnw), keepE (by decide) k0, (fun h => by rw [setB_other _ _ _ (by decide)] at h; rw [setV_other _ _ _ _ (by decide)]; exact (k1 h).below hb), keepE (by decide) k2, keepE (by decide) k3, (fun _ => by rw [setV_self]; exact hp), (fun h => by rw [setB_other _ _ _ (by decide)] at h; rw [setV_other _ _ _ _ (by decide)]; exact (k5 h).below hb), (fun h => by rw [setB_other _ _ _ (by decide)] at h; rw [setV_other _ _ _ _ (by decide)]; exact (k6 h).below hb), (fun h => by rw [setB_other _ _ _ (by decide)] at h; obtain ⟨p', f1, f2, f4, f3, f5⟩ := k7 h; refine ⟨p', by rw [setV_other _ _ _ _ (by decide)]; exact f1, Nat.lt_of_lt_of_le f2 hb.size, f4, fun h5 => ?_, fun h5 => ?_⟩ <;> rw [setB_other _ _ _ (by decide)] at h5 <;> first | exact (f3 h5).below hb f2 | exact (f5 h5).below hb), (fun h => by rw [setB_other _ _ _ (by decide)] at h ⊢; exact k8 h)⟩
    · obtain rfl := Option.some.inj ho
      have d4 := k4 (hall ⟨4, .data⟩ (by simp) rfl)
      refine g_call 27 _ _ [v 4] (kf27 _ _) (rfl) ((less_any _ f wx d4 ff).mono ?_)
      rintro e w' ⟨u_, rfl, hp, hb⟩
      exact ⟨_, rfl, hC.trans (hb.mono hnw), keepE (by decide) k0, (fun h => by rw [setB_other _ _ _ (by decide)] at h; rw [setV_other _ _ _ _ (by decide)]; exact (k1 h).below hb), keepE (by decide) k2, keepE (by decide) k3, (fun h => by rw [setB_other _ _ _ (by decide)] at h; rw [setV_other _ _ _ _ (by decide)]; exact (k4 h).below hb), (fun _ => by rw [setV_self]; exact hp), (fun h => by rw [setB_other _ _ _ (by decide)] at h; rw [setV_other _ _ _ _ (by decide)]; exact (k6 h).below hb), (fun h => by rw [setB_other _ _ _ (by decide)] at h; obtain ⟨p', f1, f2, f4, f3, f5⟩ := k7 h; refine ⟨p', by rw [setV_other _ _ _ _ (by decide)]; exact f1, Nat.lt_of_lt_of_le f2 hb.size, f4, fun h5 => ?_, fun h5 => ?_⟩ <;> rw [setB_other _ _ _ (by decide)] at h5 <;> first | exact (f3 h5).below hb f2 | exact (f5 h5).below hb), (fun h => by rw [setB_other _ _ _ (by decide)] at h ⊢; exact k8 h)⟩
    · obtain rfl := Option.some.inj ho
      have d1 := k1 (hall ⟨1, .data⟩ (by simp) rfl)
      have d5 := k5 (hall ⟨5, .data⟩ (by simp) rfl)
      refine g_call 25 _ _ [v 1, v 5] (kf25 _ _) (rfl) ((radd_any _ _ T (-f) n wx d1 d5 ft fnf hn).mono ?_)
      rintro e w' ⟨u_, rfl, hp, hb⟩
      exact ⟨_, rfl, hC.trans (hb.mono hnw), keepE (by decide) k0, (fun h => by rw [setB_other _ _ _ (by decide)] at h; rw [setV_other _ _ _ _ (by decide)]; exact (k1 h).below hb), keepE (by decide) k2, keepE (by decide) k3, (fun h => by rw [setB_other _ _ _ (by decide)] at h; rw [setV_other _ _ _ _ (by decide)]; exact (k4 h).below hb), (fun h => by rw [setB_other _ _ _ (by decide)] at h; rw [setV_other _ _ _ _ (by decide)]; exact (k5 h).below hb), (fun _ => by rw [setV_self]; exact hp), (fun h => by rw [setB_other _ _ _ (by decide)] at h; obtain ⟨p', f1, f2, f4, f3, f5⟩ := k7 h; refine ⟨p', by rw [setV_other _ _ _ _ (by decide)]; exact f1, Nat.lt_of_lt_of_le f2 hb.size, f4, fun h5 => ?_, fun h5 => ?_⟩ <;> rw [setB_other _ _ _ (by decide)] at h5 <;> first | exact (f3 h5).below hb f2 | exact (f5 h5).below hb), (fun h => by rw [setB_other _ _ _ (by decide)] at h ⊢; exact k8 h)⟩
    · obtain rfl := Option.some.inj ho
      refine g_alloc 54 _ zeroR (fun w' h1 h2 => ?_)
      exact ⟨h1.below hC hnw, keepE (by decide) k0, (fun h => by rw [setB_other _ _ _ (by decide)] at h; rw [setV_other _ _ _ _ (by decide)]; exact (k1 h).below h1.toBelow), keepE (by decide) k2, keepE (by decide) k3, (fun h => by rw [setB_other _ _ _ (by decide)] at h; rw [setV_other _ _ _ _ (by decide)]; exact (k4 h).below h1.toBelow), (fun h => by rw [setB_other _ _ _ (by decide)] at h; rw [setV_other _ _ _ _ (by decide)]; exact (k5 h).below h1.toBelow), (fun h => by rw [setB_other _ _ _ (by decide)] at h; rw [setV_other _ _ _ _ (by decide)]; exact (k6 h).below h1.toBelow), (fun _ => ⟨wx.heap.size, setV_self _ _ _, h2.lt, hC.size, fun _ => h2, fun h => by rw [setB_other _ _ _ (by decide)] at h; have := k8 h; rw [hti] at this; cases this⟩), (fun _ => setB_self _ _)⟩
    · obtain rfl := Option.some.inj ho
      have ht_ := hall ⟨7, .data⟩ (by simp) rfl
      obtain ⟨p, e1, e2, e4, e3, e5⟩ := k7 ht_
      have hold := e3 hti
      have hlo : w2.heap.size ≤ p := Nat.le_trans hB0 e4
      obtain ⟨s8, b8, e8, r8⟩ := k6 (hall ⟨6, .data⟩ (by simp) rfl)
      refine g_store_all 54 _ _ (p) [.bool s8, b8] _ 54 (show v 7 = _ from e1) (show v 6 = _ from e8) hold szR rfl (one_rc _ _ r8.sl) (fun w' h1 h2 => ?_)
      exact ⟨h1.below hC hlo, keepE (by decide) k0, (fun h => by rw [setB_other _ _ _ (by decide)] at h; rw [setV_other _ _ _ _ (by decide)]; exact (k1 h).turn h1 hold (by decide)), keepE (by decide) k2, keepE (by decide) k3, (fun h => by rw [setB_other _ _ _ (by decide)] at h; rw [setV_other _ _ _ _ (by decide)]; exact (k4 h).turn h1 hold (by decide)), (fun h => by rw [setB_other _ _ _ (by decide)] at h; rw [setV_other _ _ _ _ (by decide)]; exact (k5 h).turn h1 hold (by decide)), (fun h => by rw [setB_other _ _ _ (by decide)] at h; rw [setV_other _ _ _ _ (by decide)]; exact (k6 h).turn h1 hold (by decide)), (fun h => ⟨p, by rw [setV_other _ _ _ _ (by decide)]; exact e1, Nat.lt_of_lt_of_le e2 h1.size, e4, (fun h => by have := setB_self t 8; rw [h] at this; cases this), fun _ => ⟨_, _, h2, r8.turn h1 hold (by decide)⟩⟩), (fun _ => by rw [setB_other _ _ _ (by decide)]; exact ht_)⟩
    · simp at ho
  · simp only [full, Act.put, List.setIfInBounds_toArray, List.set_cons_succ, List.set_cons_zero, Nat.zero_add, Nat.reduceAdd]
    intro t v w3 hS ht
    obtain ⟨hC, k0, k1, k2, k3, k4, k5, k6, k7, k8⟩ := hS
    obtain ⟨p_g, e1_g, -, e4_g, -, e5_g⟩ := k7 (ht 7 (by decide))
    obtain ⟨s_g, v_g, b_g, r_g⟩ := e5_g (ht 8 (by decide))
    rw [e1_g]
    have d0 := k0 (ht 0 (by decide)); (try rw [d0])
    clear d0
    have d2 := k2 (ht 2 (by decide)); (try rw [d2])
    clear d2
    have d3 := k3 (ht 3 (by decide)); (try rw [d3])
    clear d3
    clear ht k0 k1 k2 k3 k4 k5 k6 k7 k8 e1_g e5_g lt_c lt_r
    generalize v 1 = y1_1
    generalize v 4 = y1_4
    generalize v 5 = y1_5
    generalize v 6 = y1_6
    generalize v 8 = y1_8
    have l_g : w.heap.size ≤ p_g := Nat.le_trans hB.size e4_g
    have o_g : w1.heap.size < p_g := Nat.lt_of_lt_of_le b_r.lt e4_g
    clear e4_g
    clear hB0
    replace b_c := b_c.below hC b_c.lt
    replace b_r := b_r.below hC b_r.lt
    replace hB := hB.trans (hC.mono hB.size)
    clear hC
    go_wp2_with (first
      | ((with_reducible refine stop_region 2 ?_); intro X2 hX2))
    refine hX2.out ?_
    clear hX2
    have hB0 : w3.heap.size ≤ w3.heap.size := Nat.le_refl _
    have lt_c := b_c.lt
    have lt_r := b_r.lt
    have lt_g := b_g.lt
    refine wp_region_inv (by kernel_rfl) (by kernel_rfl) (fun t v wx => Below w3.heap.size w3 wx ∧ (t 0 = true → v 0 = .agg #[.bool s_g, v_g]) ∧ (t 1 = true → v 1 = .pointer (some ⟨w.heap.size, 2, none⟩)) ∧ (t 2 = true → v 2 = .int .i64 (r)) ∧ (t 3 = true → RN wx (v 3) (r)) ∧ (t 4 = true → RN wx (v 4) (P)) ∧ (t 5 = true → RN wx (v 5) (1000000000)) ∧ (t 6 = true → RP wx (v 6) (P / 1000000000) (P % 1000000000)) ∧ (t 7 = true → RP wx (v 7) (P / 1000000000) (P % 1000000000)) ∧ (t 8 = true → RN wx (v 8) (P / 1000000000)) ∧ (t 9 = true → RN wx (v 9) (P % 1000000000)) ∧ (t 10 = true → ∃ p, v 10 = .pointer (some ⟨p, 0, none⟩) ∧ p < wx.heap.size ∧ w3.heap.size ≤ p ∧ (t 12 = false → Blk wx p [.bool false, .slice none 0 0] 54) ∧ (t 12 = true → RA wx (p) (P / 1000000000))) ∧ (t 11 = true → ∃ p, v 11 = .pointer (some ⟨p, 0, none⟩) ∧ p < wx.heap.size ∧ w3.heap.size ≤ p ∧ (t 13 = false → Blk wx p [.bool false, .slice none 0 0] 54) ∧ (t 13 = true → RA wx (p) (P % 1000000000))) ∧ (t 12 = true → t 10 = true) ∧ (t 13 = true → t 11 = true) ∧ (t 10 = true → t 11 = true → v 10 ≠ v 11)) ?_ ?_ ?_
    · exact ⟨(Below.refl _ _).drew, (fun h => by cases h), (fun h => by cases h), (fun h => by cases h), (fun h => by cases h), (fun h => by cases h), (fun h => by cases h), (fun h => by cases h), (fun h => by cases h), (fun h => by cases h), (fun h => by cases h), (fun h => by cases h), (fun h => by cases h), (fun h => by cases h), (fun h => by cases h), (fun h => by cases h)⟩
    · simp only [full, Act.put, List.setIfInBounds_toArray, List.set_cons_succ, List.set_cons_zero, Nat.zero_add, Nat.reduceAdd]
      intro i o ho t v wx hS hti hall
      obtain ⟨hC, k0, k1, k2, k3, k4, k5, k6, k7, k8, k9, k10, k11, k12, k13, n10_11⟩ := hS
      have hnw : w3.heap.size ≤ wx.heap.size := Nat.le_trans hB0 hC.size
      rcases i with _ | _ | _ | _ | _ | _ | _ | _ | _ | _ | _ | _ | _ | _ | i
      · obtain rfl := Option.some.inj ho
        refine g_load_all 54 _ (p_g) ([.bool s_g, v_g]) 54 _ rfl (b_g.below hC b_g.lt) Try.underlying54 rfl (szR) ?_
        exact ⟨hC, newE rfl, keepE (by decide) k1, keepE (by decide) k2, (fun h => by rw [setB_other _ _ _ (by decide)] at h; rw [setV_other _ _ _ _ (by decide)]; exact k3 h), (fun h => by rw [setB_other _ _ _ (by decide)] at h; rw [setV_other _ _ _ _ (by decide)]; exact k4 h), (fun h => by rw [setB_other _ _ _ (by decide)] at h; rw [setV_other _ _ _ _ (by decide)]; exact k5 h), (fun h => by rw [setB_other _ _ _ (by decide)] at h; rw [setV_other _ _ _ _ (by decide)]; exact k6 h), (fun h => by rw [setB_other _ _ _ (by decide)] at h; rw [setV_other _ _ _ _ (by decide)]; exact k7 h), (fun h => by rw [setB_other _ _ _ (by decide)] at h; rw [setV_other _ _ _ _ (by decide)]; exact k8 h), (fun h => by rw [setB_other _ _ _ (by decide)] at h; rw [setV_other _ _ _ _ (by decide)]; exact k9 h), (fun h => by rw [setB_other _ _ _ (by decide)] at h; obtain ⟨p', f1, f2, f4, f3, f5⟩ := k10 h; refine ⟨p', by rw [setV_other _ _ _ _ (by decide)]; exact f1, f2, f4, fun h5 => ?_, fun h5 => ?_⟩ <;> rw [setB_other _ _ _ (by decide)] at h5 <;> first | exact f3 h5 | exact f5 h5), (fun h => by rw [setB_other _ _ _ (by decide)] at h; obtain ⟨p', f1, f2, f4, f3, f5⟩ := k11 h; refine ⟨p', by rw [setV_other _ _ _ _ (by decide)]; exact f1, f2, f4, fun h5 => ?_, fun h5 => ?_⟩ <;> rw [setB_other _ _ _ (by decide)] at h5 <;> first | exact f3 h5 | exact f5 h5), (fun h => by rw [setB_other _ _ _ (by decide)] at h ⊢; exact k12 h), (fun h => by rw [setB_other _ _ _ (by decide)] at h ⊢; exact k13 h), (fun h h' => by rw [setB_other _ _ _ (by decide)] at h h'; rw [setV_other _ _ _ _ (by decide), setV_other _ _ _ _ (by decide)]; exact n10_11 h h')⟩
      · obtain rfl := Option.some.inj ho
        refine g_fK2 _ _ rfl ?_
        exact ⟨hC, keepE (by decide) k0, newE rfl, keepE (by decide) k2, (fun h => by rw [setB_other _ _ _ (by decide)] at h; rw [setV_other _ _ _ _ (by decide)]; exact k3 h), (fun h => by rw [setB_other _ _ _ (by decide)] at h; rw [setV_other _ _ _ _ (by decide)]; exact k4 h), (fun h => by rw [setB_other _ _ _ (by decide)] at h; rw [setV_other _ _ _ _ (by decide)]; exact k5 h), (fun h => by rw [setB_other _ _ _ (by decide)] at h; rw [setV_other _ _ _ _ (by decide)]; exact k6 h), (fun h => by rw [setB_other _ _ _ (by decide)] at h; rw [setV_other _ _ _ _ (by decide)]; exact k7 h), (fun h => by rw [setB_other _ _ _ (by decide)] at h; rw [setV_other _ _ _ _ (by decide)]; exact k8 h), (fun h => by rw [setB_other _ _ _ (by decide)] at h; rw [setV_other _ _ _ _ (by decide)]; exact k9 h), (fun h => by rw [setB_other _ _ _ (by decide)] at h; obtain ⟨p', f1, f2, f4, f3, f5⟩ := k10 h; refine ⟨p', by rw [setV_other _ _ _ _ (by decide)]; exact f1, f2, f4, fun h5 => ?_, fun h5 => ?_⟩ <;> rw [setB_other _ _ _ (by decide)] at h5 <;> first | exact f3 h5 | exact f5 h5), (fun h => by rw [setB_other _ _ _ (by decide)] at h; obtain ⟨p', f1, f2, f4, f3, f5⟩ := k11 h; refine ⟨p', by rw [setV_other _ _ _ _ (by decide)]; exact f1, f2, f4, fun h5 => ?_, fun h5 => ?_⟩ <;> rw [setB_other _ _ _ (by decide)] at h5 <;> first | exact f3 h5 | exact f5 h5), (fun h => by rw [setB_other _ _ _ (by decide)] at h ⊢; exact k12 h), (fun h => by rw [setB_other _ _ _ (by decide)] at h ⊢; exact k13 h), (fun h h' => by rw [setB_other _ _ _ (by decide)] at h h'; rw [setV_other _ _ _ _ (by decide), setV_other _ _ _ _ (by decide)]; exact n10_11 h h')⟩
      · obtain rfl := Option.some.inj ho
        have d1 := k1 (hall ⟨1, .data⟩ (by simp) rfl)
        refine g_cell2 _ (w.heap.size) 2 (cl (f) (s) (r)) 25 _ (show v 1 = _ from d1) (b_c.below hC b_c.lt) (rfl) ?_
        exact ⟨hC, keepE (by decide) k0, keepE (by decide) k1, newE rfl, (fun h => by rw [setB_other _ _ _ (by decide)] at h; rw [setV_other _ _ _ _ (by decide)]; exact k3 h), (fun h => by rw [setB_other _ _ _ (by decide)] at h; rw [setV_other _ _ _ _ (by decide)]; exact k4 h), (fun h => by rw [setB_other _ _ _ (by decide)] at h; rw [setV_other _ _ _ _ (by decide)]; exact k5 h), (fun h => by rw [setB_other _ _ _ (by decide)] at h; rw [setV_other _ _ _ _ (by decide)]; exact k6 h), (fun h => by rw [setB_other _ _ _ (by decide)] at h; rw [setV_other _ _ _ _ (by decide)]; exact k7 h), (fun h => by rw [setB_other _ _ _ (by decide)] at h; rw [setV_other _ _ _ _ (by decide)]; exact k8 h), (fun h => by rw [setB_other _ _ _ (by decide)] at h; rw [setV_other _ _ _ _ (by decide)]; exact k9 h), (fun h => by rw [setB_other _ _ _ (by decide)] at h; obtain ⟨p', f1, f2, f4, f3, f5⟩ := k10 h; refine ⟨p', by rw [setV_other _ _ _ _ (by decide)]; exact f1, f2, f4, fun h5 => ?_, fun h5 => ?_⟩ <;> rw [setB_other _ _ _ (by decide)] at h5 <;> first | exact f3 h5 | exact f5 h5), (fun h => by rw [setB_other _ _ _ (by decide)] at h; obtain ⟨p', f1, f2, f4, f3, f5⟩ := k11 h; refine ⟨p', by rw [setV_other _ _ _ _ (by decide)]; exact f1, f2, f4, fun h5 => ?_, fun h5 => ?_⟩ <;> rw [setB_other _ _ _ (by decide)] at h5 <;> first | exact f3 h5 | exact f5 h5), (fun h => by rw [setB_other _ _ _ (by decide)] at h ⊢; exact k12 h), (fun h => by rw [setB_other _ _ _ (by decide)] at h ⊢; exact k13 h), (fun h h' => by rw [setB_other _ _ _ (by decide)] at h h'; rw [setV_other _ _ _ _ (by decide), setV_other _ _ _ _ (by decide)]; exact n10_11 h h')⟩
      · obtain rfl := Option.some.inj ho
        have d2 := k2 (hall ⟨2, .data⟩ (by simp) rfl)
        refine g_call 26 _ _ [.int .i64 (r)] (kf26 _ _) (by show ([v 2] : List Value) = _; rw [d2]; (try rfl)) ((rof_any r wx hr).mono ?_)
        rintro e w' ⟨u_, rfl, hp, hb⟩
        exact ⟨_, rfl, hC.trans (hb.mono hnw), keepE (by decide) k0, keepE (by decide) k1, keepE (by decide) k2, (fun _ => by rw [setV_self]; exact hp), (fun h => by rw [setB_other _ _ _ (by decide)] at h; rw [setV_other _ _ _ _ (by decide)]; exact (k4 h).below hb), (fun h => by rw [setB_other _ _ _ (by decide)] at h; rw [setV_other _ _ _ _ (by decide)]; exact (k5 h).below hb), (fun h => by rw [setB_other _ _ _ (by decide)] at h; rw [setV_other _ _ _ _ (by decide)]; exact (k6 h).below hb), (fun h => by rw [setB_other _ _ _ (by decide)] at h; rw [setV_other _ _ _ _ (by decide)]; exact (k7 h).below hb), (fun h => by rw [setB_other _ _ _ (by decide)] at h; rw [setV_other _ _ _ _ (by decide)]; exact (k8 h).below hb), (fun h => by rw [setB_other _ _ _ (by decide)] at h; rw [setV_other _ _ _ _ (by decide)]; exact (k9 h).below hb), (fun h => by rw [setB_other _ _ _ (by decide)] at h; obtain ⟨p', f1, f2, f4, f3, f5⟩ := k10 h; refine ⟨p', by rw [setV_other _ _ _ _ (by decide)]; exact f1, Nat.lt_of_lt_of_le f2 hb.size, f4, fun h5 => ?_, fun h5 => ?_⟩ <;> rw [setB_other _ _ _ (by decide)] at h5 <;> first | exact (f3 h5).below hb f2 | exact (f5 h5).below hb), (fun h => by rw [setB_other _ _ _ (by decide)] at h; obtain ⟨p', f1, f2, f4, f3, f5⟩ := k11 h; refine ⟨p', by rw [setV_other _ _ _ _ (by decide)]; exact f1, Nat.lt_of_lt_of_le f2 hb.size, f4, fun h5 => ?_, fun h5 => ?_⟩ <;> rw [setB_other _ _ _ (by decide)] at h5 <;> first | exact (f3 h5).below hb f2 | exact (f5 h5).below hb), (fun h => by rw [setB_other _ _ _ (by decide)] at h ⊢; exact k12 h), (fun h => by rw [setB_other _ _ _ (by decide)] at h ⊢; exact k13 h), (fun h h' => by rw [setB_other _ _ _ (by decide)] at h h'; rw [setV_other _ _ _ _ (by decide), setV_other _ _ _ _ (by decide)]; exact n10_11 h h')⟩
      · obtain rfl := Option.some.inj ho
        have d0 := k0 (hall ⟨0, .data⟩ (by simp) rfl)
        have d3 := k3 (hall ⟨3, .data⟩ (by simp) rfl)
        refine g_call 35 _ _ [.agg #[.bool s_g, v_g], v 3] (kf35 _ _) (by show ([v 0, v 3] : List Value) = _; rw [d0]; (try rfl)) ((rtimes_any _ _ n r P wx ⟨_, _, rfl, (r_g.below hC)⟩ d3 fn fr hP).mono ?_)
        rintro e w' ⟨u_, rfl, hp, hb⟩
        exact ⟨_, rfl, hC.trans (hb.mono hnw), keepE (by decide) k0, keepE (by decide) k1, keepE (by decide) k2, (fun h => by rw [setB_other _ _ _ (by decide)] at h; rw [setV_other _ _ _ _ (by decide)]; exact (k3 h).below hb), (fun _ => by rw [setV_self]; exact hp), (fun h => by rw [setB_other _ _ _ (by decide)] at h; rw [setV_other _ _ _ _ (by decide)]; exact (k5 h).below hb), (fun h => by rw [setB_other _ _ _ (by decide)] at h; rw [setV_other _ _ _ _ (by decide)]; exact (k6 h).below hb), (fun h => by rw [setB_other _ _ _ (by decide)] at h; rw [setV_other _ _ _ _ (by decide)]; exact (k7 h).below hb), (fun h => by rw [setB_other _ _ _ (by decide)] at h; rw [setV_other _ _ _ _ (by decide)]; exact (k8 h).below hb), (fun h => by rw [setB_other _ _ _ (by decide)] at h; rw [setV_other _ _ _ _ (by decide)]; exact (k9 h).below hb), (fun h => by rw [setB_other _ _ _ (by decide)] at h; obtain ⟨p', f1, f2, f4, f3, f5⟩ := k10 h; refine ⟨p', by rw [setV_other _ _ _ _ (by decide)]; exact f1, Nat.lt_of_lt_of_le f2 hb.size, f4, fun h5 => ?_, fun h5 => ?_⟩ <;> rw [setB_other _ _ _ (by decide)] at h5 <;> first | exact (f3 h5).below hb f2 | exact (f5 h5).below hb), (fun h => by rw [setB_other _ _ _ (by decide)] at h; obtain ⟨p', f1, f2, f4, f3, f5⟩ := k11 h; refine ⟨p', by rw [setV_other _ _ _ _ (by decide)]; exact f1, Nat.lt_of_lt_of_le f2 hb.size, f4, fun h5 => ?_, fun h5 => ?_⟩ <;> rw [setB_other _ _ _ (by decide)] at h5 <;> first | exact (f3 h5).below hb f2 | exact (f5 h5).below hb), (fun h => by rw [setB_other _ _ _ (by decide)] at h ⊢; exact k12 h), (fun h => by rw [setB_other _ _ _ (by decide)] at h ⊢; exact k13 h), (fun h h' => by rw [setB_other _ _ _ (by decide)] at h h'; rw [setV_other _ _ _ _ (by decide), setV_other _ _ _ _ (by decide)]; exact n10_11 h h')⟩
      · obtain rfl := Option.some.inj ho
        refine g_call 26 _ _ [.int .i64 (1000000000)] (kf26 _ _) (rfl) ((rof_any 1000000000 wx j9).mono ?_)
        rintro e w' ⟨u_, rfl, hp, hb⟩
        exact ⟨_, rfl, hC.trans (hb.mono hnw), keepE (by decide) k0, keepE (by decide) k1, keepE (by decide) k2, (fun h => by rw [setB_other _ _ _ (by decide)] at h; rw [setV_other _ _ _ _ (by decide)]; exact (k3 h).below hb), (fun h => by rw [setB_other _ _ _ (by decide)] at h; rw [setV_other _ _ _ _ (by decide)]; exact (k4 h).below hb), (fun _ => by rw [setV_self]; exact hp), (fun h => by rw [setB_other _ _ _ (by decide)] at h; rw [setV_other _ _ _ _ (by decide)]; exact (k6 h).below hb), (fun h => by rw [setB_other _ _ _ (by decide)] at h; rw [setV_other _ _ _ _ (by decide)]; exact (k7 h).below hb), (fun h => by rw [setB_other _ _ _ (by decide)] at h; rw [setV_other _ _ _ _ (by decide)]; exact (k8 h).below hb), (fun h => by rw [setB_other _ _ _ (by decide)] at h; rw [setV_other _ _ _ _ (by decide)]; exact (k9 h).below hb), (fun h => by rw [setB_other _ _ _ (by decide)] at h; obtain ⟨p', f1, f2, f4, f3, f5⟩ := k10 h; refine ⟨p', by rw [setV_other _ _ _ _ (by decide)]; exact f1, Nat.lt_of_lt_of_le f2 hb.size, f4, fun h5 => ?_, fun h5 => ?_⟩ <;> rw [setB_other _ _ _ (by decide)] at h5 <;> first | exact (f3 h5).below hb f2 | exact (f5 h5).below hb), (fun h => by rw [setB_other _ _ _ (by decide)] at h; obtain ⟨p', f1, f2, f4, f3, f5⟩ := k11 h; refine ⟨p', by rw [setV_other _ _ _ _ (by decide)]; exact f1, Nat.lt_of_lt_of_le f2 hb.size, f4, fun h5 => ?_, fun h5 => ?_⟩ <;> rw [setB_other _ _ _ (by decide)] at h5 <;> first | exact (f3 h5).below hb f2 | exact (f5 h5).below hb), (fun h => by rw [setB_other _ _ _ (by decide)] at h ⊢; exact k12 h), (fun h => by rw [setB_other _ _ _ (by decide)] at h ⊢; exact k13 h), (fun h h' => by rw [setB_other _ _ _ (by decide)] at h h'; rw [setV_other _ _ _ _ (by decide), setV_other _ _ _ _ (by decide)]; exact n10_11 h h')⟩
      · obtain rfl := Option.some.inj ho
        have d4 := k4 (hall ⟨4, .data⟩ (by simp) rfl)
        have d5 := k5 (hall ⟨5, .data⟩ (by simp) rfl)
        refine g_call 34 _ _ [v 4, v 5] (kf34 _ _) (rfl) ((rdiv_any _ _ P 1000000000 wx d4 d5 fP f9 (by omega)).mono ?_)
        rintro e w' ⟨u_, v_, rfl, hp1, hp2, hb⟩
        exact ⟨_, rfl, hC.trans (hb.mono hnw), keepE (by decide) k0, keepE (by decide) k1, keepE (by decide) k2, (fun h => by rw [setB_other _ _ _ (by decide)] at h; rw [setV_other _ _ _ _ (by decide)]; exact (k3 h).below hb), (fun h => by rw [setB_other _ _ _ (by decide)] at h; rw [setV_other _ _ _ _ (by decide)]; exact (k4 h).below hb), (fun h => by rw [setB_other _ _ _ (by decide)] at h; rw [setV_other _ _ _ _ (by decide)]; exact (k5 h).below hb), (fun _ => by rw [setV_self]; exact ⟨u_, v_, rfl, hp1, hp2⟩), (fun h => by rw [setB_other _ _ _ (by decide)] at h; rw [setV_other _ _ _ _ (by decide)]; exact (k7 h).below hb), (fun h => by rw [setB_other _ _ _ (by decide)] at h; rw [setV_other _ _ _ _ (by decide)]; exact (k8 h).below hb), (fun h => by rw [setB_other _ _ _ (by decide)] at h; rw [setV_other _ _ _ _ (by decide)]; exact (k9 h).below hb), (fun h => by rw [setB_other _ _ _ (by decide)] at h; obtain ⟨p', f1, f2, f4, f3, f5⟩ := k10 h; refine ⟨p', by rw [setV_other _ _ _ _ (by decide)]; exact f1, Nat.lt_of_lt_of_le f2 hb.size, f4, fun h5 => ?_, fun h5 => ?_⟩ <;> rw [setB_other _ _ _ (by decide)] at h5 <;> first | exact (f3 h5).below hb f2 | exact (f5 h5).below hb), (fun h => by rw [setB_other _ _ _ (by decide)] at h; obtain ⟨p', f1, f2, f4, f3, f5⟩ := k11 h; refine ⟨p', by rw [setV_other _ _ _ _ (by decide)]; exact f1, Nat.lt_of_lt_of_le f2 hb.size, f4, fun h5 => ?_, fun h5 => ?_⟩ <;> rw [setB_other _ _ _ (by decide)] at h5 <;> first | exact (f3 h5).below hb f2 | exact (f5 h5).below hb), (fun h => by rw [setB_other _ _ _ (by decide)] at h ⊢; exact k12 h), (fun h => by rw [setB_other _ _ _ (by decide)] at h ⊢; exact k13 h), (fun h h' => by rw [setB_other _ _ _ (by decide)] at h h'; rw [setV_other _ _ _ _ (by decide), setV_other _ _ _ _ (by decide)]; exact n10_11 h h')⟩
      · obtain rfl := Option.some.inj ho
        have d6 := k6 (hall ⟨6, .data⟩ (by simp) rfl)
        refine g_move _ _ rfl ?_
        exact ⟨hC, keepE (by decide) k0, keepE (by decide) k1, keepE (by decide) k2, (fun h => by rw [setB_other _ _ _ (by decide)] at h; rw [setV_other _ _ _ _ (by decide)]; exact k3 h), (fun h => by rw [setB_other _ _ _ (by decide)] at h; rw [setV_other _ _ _ _ (by decide)]; exact k4 h), (fun h => by rw [setB_other _ _ _ (by decide)] at h; rw [setV_other _ _ _ _ (by decide)]; exact k5 h), (fun h => by rw [setB_other _ _ _ (by decide)] at h; rw [setV_other _ _ _ _ (by decide)]; exact k6 h), (fun _ => by rw [setV_self]; exact d6), (fun h => by rw [setB_other _ _ _ (by decide)] at h; rw [setV_other _ _ _ _ (by decide)]; exact k8 h), (fun h => by rw [setB_other _ _ _ (by decide)] at h; rw [setV_other _ _ _ _ (by decide)]; exact k9 h), (fun h => by rw [setB_other _ _ _ (by decide)] at h; obtain ⟨p', f1, f2, f4, f3, f5⟩ := k10 h; refine ⟨p', by rw [setV_other _ _ _ _ (by decide)]; exact f1, f2, f4, fun h5 => ?_, fun h5 => ?_⟩ <;> rw [setB_other _ _ _ (by decide)] at h5 <;> first | exact f3 h5 | exact f5 h5), (fun h => by rw [setB_other _ _ _ (by decide)] at h; obtain ⟨p', f1, f2, f4, f3, f5⟩ := k11 h; refine ⟨p', by rw [setV_other _ _ _ _ (by decide)]; exact f1, f2, f4, fun h5 => ?_, fun h5 => ?_⟩ <;> rw [setB_other _ _ _ (by decide)] at h5 <;> first | exact f3 h5 | exact f5 h5), (fun h => by rw [setB_other _ _ _ (by decide)] at h ⊢; exact k12 h), (fun h => by rw [setB_other _ _ _ (by decide)] at h ⊢; exact k13 h), (fun h h' => by rw [setB_other _ _ _ (by decide)] at h h'; rw [setV_other _ _ _ _ (by decide), setV_other _ _ _ _ (by decide)]; exact n10_11 h h')⟩
      · obtain rfl := Option.some.inj ho
        have d7 := k7 (hall ⟨7, .data⟩ (by simp) rfl)
        obtain ⟨u8, v8, e8, ra8, rb8⟩ := d7
        refine g_extract _ _ 0 _ (show v 7 = _ from e8) rfl ?_
        exact ⟨hC, keepE (by decide) k0, keepE (by decide) k1, keepE (by decide) k2, (fun h => by rw [setB_other _ _ _ (by decide)] at h; rw [setV_other _ _ _ _ (by decide)]; exact k3 h), (fun h => by rw [setB_other _ _ _ (by decide)] at h; rw [setV_other _ _ _ _ (by decide)]; exact k4 h), (fun h => by rw [setB_other _ _ _ (by decide)] at h; rw [setV_other _ _ _ _ (by decide)]; exact k5 h), (fun h => by rw [setB_other _ _ _ (by decide)] at h; rw [setV_other _ _ _ _ (by decide)]; exact k6 h), (fun h => by rw [setB_other _ _ _ (by decide)] at h; rw [setV_other _ _ _ _ (by decide)]; exact k7 h), (fun _ => by rw [setV_self]; exact ra8), (fun h => by rw [setB_other _ _ _ (by decide)] at h; rw [setV_other _ _ _ _ (by decide)]; exact k9 h), (fun h => by rw [setB_other _ _ _ (by decide)] at h; obtain ⟨p', f1, f2, f4, f3, f5⟩ := k10 h; refine ⟨p', by rw [setV_other _ _ _ _ (by decide)]; exact f1, f2, f4, fun h5 => ?_, fun h5 => ?_⟩ <;> rw [setB_other _ _ _ (by decide)] at h5 <;> first | exact f3 h5 | exact f5 h5), (fun h => by rw [setB_other _ _ _ (by decide)] at h; obtain ⟨p', f1, f2, f4, f3, f5⟩ := k11 h; refine ⟨p', by rw [setV_other _ _ _ _ (by decide)]; exact f1, f2, f4, fun h5 => ?_, fun h5 => ?_⟩ <;> rw [setB_other _ _ _ (by decide)] at h5 <;> first | exact f3 h5 | exact f5 h5), (fun h => by rw [setB_other _ _ _ (by decide)] at h ⊢; exact k12 h), (fun h => by rw [setB_other _ _ _ (by decide)] at h ⊢; exact k13 h), (fun h h' => by rw [setB_other _ _ _ (by decide)] at h h'; rw [setV_other _ _ _ _ (by decide), setV_other _ _ _ _ (by decide)]; exact n10_11 h h')⟩
      · obtain rfl := Option.some.inj ho
        have d7 := k7 (hall ⟨7, .data⟩ (by simp) rfl)
        obtain ⟨u8, v8, e8, ra8, rb8⟩ := d7
        refine g_extract _ _ 1 _ (show v 7 = _ from e8) rfl ?_
        exact ⟨hC, keepE (by decide) k0, keepE (by decide) k1, keepE (by decide) k2, (fun h => by rw [setB_other _ _ _ (by decide)] at h; rw [setV_other _ _ _ _ (by decide)]; exact k3 h), (fun h => by rw [setB_other _ _ _ (by decide)] at h; rw [setV_other _ _ _ _ (by decide)]; exact k4 h), (fun h => by rw [setB_other _ _ _ (by decide)] at h; rw [setV_other _ _ _ _ (by decide)]; exact k5 h), (fun h => by rw [setB_other _ _ _ (by decide)] at h; rw [setV_other _ _ _ _ (by decide)]; exact k6 h), (fun h => by rw [setB_other _ _ _ (by decide)] at h; rw [setV_other _ _ _ _ (by decide)]; exact k7 h), (fun h => by rw [setB_other _ _ _ (by decide)] at h; rw [setV_other _ _ _ _ (by decide)]; exact k8 h), (fun _ => by rw [setV_self]; exact rb8), (fun h => by rw [setB_other _ _ _ (by decide)] at h; obtain ⟨p', f1, f2, f4, f3, f5⟩ := k10 h; refine ⟨p', by rw [setV_other _ _ _ _ (by decide)]; exact f1, f2, f4, fun h5 => ?_, fun h5 => ?_⟩ <;> rw [setB_other _ _ _ (by decide)] at h5 <;> first | exact f3 h5 | exact f5 h5), (fun h => by rw [setB_other _ _ _ (by decide)] at h; obtain ⟨p', f1, f2, f4, f3, f5⟩ := k11 h; refine ⟨p', by rw [setV_other _ _ _ _ (by decide)]; exact f1, f2, f4, fun h5 => ?_, fun h5 => ?_⟩ <;> rw [setB_other _ _ _ (by decide)] at h5 <;> first | exact f3 h5 | exact f5 h5), (fun h => by rw [setB_other _ _ _ (by decide)] at h ⊢; exact k12 h), (fun h => by rw [setB_other _ _ _ (by decide)] at h ⊢; exact k13 h), (fun h h' => by rw [setB_other _ _ _ (by decide)] at h h'; rw [setV_other _ _ _ _ (by decide), setV_other _ _ _ _ (by decide)]; exact n10_11 h h')⟩
      · obtain rfl := Option.some.inj ho
        refine g_alloc 54 _ zeroR (fun w' h1 h2 => ?_)
        exact ⟨h1.below hC hnw, keepE (by decide) k0, keepE (by decide) k1, keepE (by decide) k2, (fun h => by rw [setB_other _ _ _ (by decide)] at h; rw [setV_other _ _ _ _ (by decide)]; exact (k3 h).below h1.toBelow), (fun h => by rw [setB_other _ _ _ (by decide)] at h; rw [setV_other _ _ _ _ (by decide)]; exact (k4 h).below h1.toBelow), (fun h => by rw [setB_other _ _ _ (by decide)] at h; rw [setV_other _ _ _ _ (by decide)]; exact (k5 h).below h1.toBelow), (fun h => by rw [setB_other _ _ _ (by decide)] at h; rw [setV_other _ _ _ _ (by decide)]; exact (k6 h).below h1.toBelow), (fun h => by rw [setB_other _ _ _ (by decide)] at h; rw [setV_other _ _ _ _ (by decide)]; exact (k7 h).below h1.toBelow), (fun h => by rw [setB_other _ _ _ (by decide)] at h; rw [setV_other _ _ _ _ (by decide)]; exact (k8 h).below h1.toBelow), (fun h => by rw [setB_other _ _ _ (by decide)] at h; rw [setV_other _ _ _ _ (by decide)]; exact (k9 h).below h1.toBelow), (fun _ => ⟨wx.heap.size, setV_self _ _ _, h2.lt, hC.size, fun _ => h2, fun h => by rw [setB_other _ _ _ (by decide)] at h; have := k12 h; rw [hti] at this; cases this⟩), (fun h => by rw [setB_other _ _ _ (by decide)] at h; obtain ⟨p', f1, f2, f4, f3, f5⟩ := k11 h; refine ⟨p', by rw [setV_other _ _ _ _ (by decide)]; exact f1, Nat.lt_of_lt_of_le f2 h1.size, f4, fun h5 => ?_, fun h5 => ?_⟩ <;> rw [setB_other _ _ _ (by decide)] at h5 <;> first | exact h1.blk (f3 h5) (Nat.ne_of_lt f2) | exact (f5 h5).below h1.toBelow), (fun _ => setB_self _ _), (fun h => by rw [setB_other _ _ _ (by decide)] at h ⊢; exact k13 h), (fun _ h => by rw [setB_other _ _ _ (by decide)] at h; obtain ⟨p', f1, f2, -⟩ := k11 h; rw [setV_self, setV_other _ _ _ _ (by decide), f1]; intro hh; simp only [Value.pointer.injEq, Option.some.injEq, Addr.mk.injEq] at hh; omega)⟩
      · obtain rfl := Option.some.inj ho
        refine g_alloc 54 _ zeroR (fun w' h1 h2 => ?_)
        exact ⟨h1.below hC hnw, keepE (by decide) k0, keepE (by decide) k1, keepE (by decide) k2, (fun h => by rw [setB_other _ _ _ (by decide)] at h; rw [setV_other _ _ _ _ (by decide)]; exact (k3 h).below h1.toBelow), (fun h => by rw [setB_other _ _ _ (by decide)] at h; rw [setV_other _ _ _ _ (by decide)]; exact (k4 h).below h1.toBelow), (fun h => by rw [setB_other _ _ _ (by decide)] at h; rw [setV_other _ _ _ _ (by decide)]; exact (k5 h).below h1.toBelow), (fun h => by rw [setB_other _ _ _ (by decide)] at h; rw [setV_other _ _ _ _ (by decide)]; exact (k6 h).below h1.toBelow), (fun h => by rw [setB_other _ _ _ (by decide)] at h; rw [setV_other _ _ _ _ (by decide)]; exact (k7 h).below h1.toBelow), (fun h => by rw [setB_other _ _ _ (by decide)] at h; rw [setV_other _ _ _ _ (by decide)]; exact (k8 h).below h1.toBelow), (fun h => by rw [setB_other _ _ _ (by decide)] at h; rw [setV_other _ _ _ _ (by decide)]; exact (k9 h).below h1.toBelow), (fun h => by rw [setB_other _ _ _ (by decide)] at h; obtain ⟨p', f1, f2, f4, f3, f5⟩ := k10 h; refine ⟨p', by rw [setV_other _ _ _ _ (by decide)]; exact f1, Nat.lt_of_lt_of_le f2 h1.size, f4, fun h5 => ?_, fun h5 => ?_⟩ <;> rw [setB_other _ _ _ (by decide)] at h5 <;> first | exact h1.blk (f3 h5) (Nat.ne_of_lt f2) | exact (f5 h5).below h1.toBelow), (fun _ => ⟨wx.heap.size, setV_self _ _ _, h2.lt, hC.size, fun _ => h2, fun h => by rw [setB_other _ _ _ (by decide)] at h; have := k13 h; rw [hti] at this; cases this⟩), (fun h => by rw [setB_other _ _ _ (by decide)] at h ⊢; exact k12 h), (fun _ => setB_self _ _), (fun h _ => by rw [setB_other _ _ _ (by decide)] at h; obtain ⟨p', f1, f2, -⟩ := k10 h; rw [setV_self, setV_other _ _ _ _ (by decide), f1]; intro hh; simp only [Value.pointer.injEq, Option.some.injEq, Addr.mk.injEq] at hh; omega)⟩
      · obtain rfl := Option.some.inj ho
        have ht_ := hall ⟨10, .data⟩ (by simp) rfl
        obtain ⟨p, e1, e2, e4, e3, e5⟩ := k10 ht_
        have hold := e3 hti
        have hlo : w3.heap.size ≤ p := Nat.le_trans hB0 e4
        obtain ⟨s8, b8, e8, r8⟩ := k8 (hall ⟨8, .data⟩ (by simp) rfl)
        refine g_store_all 54 _ _ (p) [.bool s8, b8] _ 54 (show v 10 = _ from e1) (show v 8 = _ from e8) hold szR rfl (one_rc _ _ r8.sl) (fun w' h1 h2 => ?_)
        exact ⟨h1.below hC hlo, keepE (by decide) k0, keepE (by decide) k1, keepE (by decide) k2, (fun h => by rw [setB_other _ _ _ (by decide)] at h; rw [setV_other _ _ _ _ (by decide)]; exact (k3 h).turn h1 hold (by decide)), (fun h => by rw [setB_other _ _ _ (by decide)] at h; rw [setV_other _ _ _ _ (by decide)]; exact (k4 h).turn h1 hold (by decide)), (fun h => by rw [setB_other _ _ _ (by decide)] at h; rw [setV_other _ _ _ _ (by decide)]; exact (k5 h).turn h1 hold (by decide)), (fun h => by rw [setB_other _ _ _ (by decide)] at h; rw [setV_other _ _ _ _ (by decide)]; exact (k6 h).turn h1 hold (by decide)), (fun h => by rw [setB_other _ _ _ (by decide)] at h; rw [setV_other _ _ _ _ (by decide)]; exact (k7 h).turn h1 hold (by decide)), (fun h => by rw [setB_other _ _ _ (by decide)] at h; rw [setV_other _ _ _ _ (by decide)]; exact (k8 h).turn h1 hold (by decide)), (fun h => by rw [setB_other _ _ _ (by decide)] at h; rw [setV_other _ _ _ _ (by decide)]; exact (k9 h).turn h1 hold (by decide)), (fun h => ⟨p, by rw [setV_other _ _ _ _ (by decide)]; exact e1, Nat.lt_of_lt_of_le e2 h1.size, e4, (fun h => by have := setB_self t 12; rw [h] at this; cases this), fun _ => ⟨_, _, h2, r8.turn h1 hold (by decide)⟩⟩), (fun h => by rw [setB_other _ _ _ (by decide)] at h; obtain ⟨p', f1, f2, f4, f3, f5⟩ := k11 h; have hne : p' ≠ p := (by intro hh; apply n10_11 ht_ h; rw [f1, e1, hh]); refine ⟨p', by rw [setV_other _ _ _ _ (by decide)]; exact f1, Nat.lt_of_lt_of_le f2 h1.size, f4, fun h5 => ?_, fun h5 => ?_⟩ <;> rw [setB_other _ _ _ (by decide)] at h5 <;> first | exact h1.blk (f3 h5) hne | exact (f5 h5).turn h1 hold (fun hh => hne (Option.some.inj hh))), (fun _ => by rw [setB_other _ _ _ (by decide)]; exact ht_), (fun h => by rw [setB_other _ _ _ (by decide)] at h ⊢; exact k13 h), (fun h h' => by rw [setB_other _ _ _ (by decide)] at h h'; rw [setV_other _ _ _ _ (by decide), setV_other _ _ _ _ (by decide)]; exact n10_11 h h')⟩
      · obtain rfl := Option.some.inj ho
        have ht_ := hall ⟨11, .data⟩ (by simp) rfl
        obtain ⟨p, e1, e2, e4, e3, e5⟩ := k11 ht_
        have hold := e3 hti
        have hlo : w3.heap.size ≤ p := Nat.le_trans hB0 e4
        obtain ⟨s8, b8, e8, r8⟩ := k9 (hall ⟨9, .data⟩ (by simp) rfl)
        refine g_store_all 54 _ _ (p) [.bool s8, b8] _ 54 (show v 11 = _ from e1) (show v 9 = _ from e8) hold szR rfl (one_rc _ _ r8.sl) (fun w' h1 h2 => ?_)
        exact ⟨h1.below hC hlo, keepE (by decide) k0, keepE (by decide) k1, keepE (by decide) k2, (fun h => by rw [setB_other _ _ _ (by decide)] at h; rw [setV_other _ _ _ _ (by decide)]; exact (k3 h).turn h1 hold (by decide)), (fun h => by rw [setB_other _ _ _ (by decide)] at h; rw [setV_other _ _ _ _ (by decide)]; exact (k4 h).turn h1 hold (by decide)), (fun h => by rw [setB_other _ _ _ (by decide)] at h; rw [setV_other _ _ _ _ (by decide)]; exact (k5 h).turn h1 hold (by decide)), (fun h => by rw [setB_other _ _ _ (by decide)] at h; rw [setV_other _ _ _ _ (by decide)]; exact (k6 h).turn h1 hold (by decide)), (fun h => by rw [setB_other _ _ _ (by decide)] at h; rw [setV_other _ _ _ _ (by decide)]; exact (k7 h).turn h1 hold (by decide)), (fun h => by rw [setB_other _ _ _ (by decide)] at h; rw [setV_other _ _ _ _ (by decide)]; exact (k8 h).turn h1 hold (by decide)), (fun h => by rw [setB_other _ _ _ (by decide)] at h; rw [setV_other _ _ _ _ (by decide)]; exact (k9 h).turn h1 hold (by decide)), (fun h => by rw [setB_other _ _ _ (by decide)] at h; obtain ⟨p', f1, f2, f4, f3, f5⟩ := k10 h; have hne : p' ≠ p := (by intro hh; apply n10_11 h ht_; rw [f1, e1, hh]); refine ⟨p', by rw [setV_other _ _ _ _ (by decide)]; exact f1, Nat.lt_of_lt_of_le f2 h1.size, f4, fun h5 => ?_, fun h5 => ?_⟩ <;> rw [setB_other _ _ _ (by decide)] at h5 <;> first | exact h1.blk (f3 h5) hne | exact (f5 h5).turn h1 hold (fun hh => hne (Option.some.inj hh))), (fun h => ⟨p, by rw [setV_other _ _ _ _ (by decide)]; exact e1, Nat.lt_of_lt_of_le e2 h1.size, e4, (fun h => by have := setB_self t 13; rw [h] at this; cases this), fun _ => ⟨_, _, h2, r8.turn h1 hold (by decide)⟩⟩), (fun h => by rw [setB_other _ _ _ (by decide)] at h ⊢; exact k12 h), (fun _ => by rw [setB_other _ _ _ (by decide)]; exact ht_), (fun h h' => by rw [setB_other _ _ _ (by decide)] at h h'; rw [setV_other _ _ _ _ (by decide), setV_other _ _ _ _ (by decide)]; exact n10_11 h h')⟩
      · simp at ho
    · simp only [full, Act.put, List.setIfInBounds_toArray, List.set_cons_succ, List.set_cons_zero, Nat.zero_add, Nat.reduceAdd]
      intro t v w4 hS ht
      obtain ⟨hC, k0, k1, k2, k3, k4, k5, k6, k7, k8, k9, k10, k11, k12, k13, n10_11⟩ := hS
      obtain ⟨p_o, e1_o, -, e4_o, -, e5_o⟩ := k10 (ht 10 (by decide))
      obtain ⟨s_o, v_o, b_o, r_o⟩ := e5_o (ht 12 (by decide))
      obtain ⟨p_m, e1_m, -, e4_m, -, e5_m⟩ := k11 (ht 11 (by decide))
      obtain ⟨s_m, v_m, b_m, r_m⟩ := e5_m (ht 13 (by decide))
      have ne_o_m : p_o ≠ p_m := (by intro hh; apply n10_11 (ht 10 (by decide)) (ht 11 (by decide)); rw [e1_o, e1_m, hh])
      rw [e1_o]
      rw [e1_m]
      have d0 := k0 (ht 0 (by decide)); (try rw [d0])
      clear d0
      have d1 := k1 (ht 1 (by decide)); (try rw [d1])
      clear d1
      have d2 := k2 (ht 2 (by decide)); (try rw [d2])
      clear d2
      clear ht k0 k1 k2 k3 k4 k5 k6 k7 k8 k9 k10 k11 k12 k13 n10_11 e1_o e5_o e1_m e5_m lt_c lt_r lt_g
      generalize v 3 = y2_3
      generalize v 4 = y2_4
      generalize v 5 = y2_5
      generalize v 6 = y2_6
      generalize v 7 = y2_7
      generalize v 8 = y2_8
      generalize v 9 = y2_9
      generalize v 12 = y2_12
      generalize v 13 = y2_13
      have l_o : w.heap.size ≤ p_o := Nat.le_trans hB.size e4_o
      have o_o : p_g < p_o := Nat.lt_of_lt_of_le b_g.lt e4_o
      clear e4_o
      have l_m : w.heap.size ≤ p_m := Nat.le_trans hB.size e4_m
      have o_m : p_g < p_m := Nat.lt_of_lt_of_le b_g.lt e4_m
      clear e4_m
      clear hB0
      replace r_g := r_g.below hC
      replace b_c := b_c.below hC b_c.lt
      replace b_r := b_r.below hC b_r.lt
      replace b_g := b_g.below hC b_g.lt
      replace hB := hB.trans (hC.mono hB.size)
      clear hC
      go_wp2_with (first
        | ((with_reducible refine stop_region 3 ?_); intro X3 hX3))
      refine hX3.out ?_
      clear hX3
      have hB0 : w.heap.size ≤ w4.heap.size := hB.size
      have lt_c := b_c.lt
      have lt_r := b_r.lt
      have lt_g := b_g.lt
      have lt_o := b_o.lt
      have lt_m := b_m.lt
      refine wp_region_inv (by kernel_rfl) (by kernel_rfl) (fun t v wx => Below w.heap.size w4 wx ∧ Blk wx (w.heap.size) (cl (f) (s) (r)) 25 ∧ Blk wx (p_g) ([.bool s_g, v_g]) 54 ∧ Blk wx (p_o) ([.bool s_o, v_o]) 54 ∧ Blk wx (p_m) ([.bool s_m, v_m]) 54 ∧ (RF wx s_g v_g (n)) ∧ (RF wx s_o v_o (P / 1000000000)) ∧ (RF wx s_m v_m (P % 1000000000)) ∧ (t 0 = true → v 0 = .pointer (some ⟨w.heap.size, 1, none⟩)) ∧ (t 1 = true → v 1 = .int .i64 (s)) ∧ (t 2 = true → RN wx (v 2) (s)) ∧ (t 3 = true → v 3 = .agg #[.bool s_g, v_g]) ∧ (t 4 = true → v 4 = .agg #[.bool s_o, v_o]) ∧ (t 5 = true → RN wx (v 5) (X)) ∧ (t 6 = true → RN wx (v 6) (Y)) ∧ ((t 7 = false → Blk wx (w1.heap.size) ([.bool false, .slice none 0 0]) 54) ∧ (t 7 = true → RA wx (w1.heap.size) (Y)))) ?_ ?_ ?_
      · exact ⟨(Below.refl _ _).drew, b_c.drew, b_g.drew, b_o.drew, b_m.drew, r_g.below (Below.refl _ _).drew, r_o.below (Below.refl _ _).drew, r_m.below (Below.refl _ _).drew, (fun h => by cases h), (fun h => by cases h), (fun h => by cases h), (fun h => by cases h), (fun h => by cases h), (fun h => by cases h), (fun h => by cases h), ⟨fun _ => b_r.drew, (fun h => by cases h)⟩⟩
      · simp only [full, Act.put, List.setIfInBounds_toArray, List.set_cons_succ, List.set_cons_zero, Nat.zero_add, Nat.reduceAdd]
        intro i o ho t v wx hS hti hall
        obtain ⟨hC, q_c, q_g, q_o, q_m, g_r_g, g_r_o, g_r_m, k0, k1, k2, k3, k4, k5, k6, k7⟩ := hS
        have hnw : w.heap.size ≤ wx.heap.size := Nat.le_trans hB0 hC.size
        rcases i with _ | _ | _ | _ | _ | _ | _ | _ | i
        · obtain rfl := Option.some.inj ho
          refine g_fK1 _ _ rfl ?_
          exact ⟨hC, q_c, q_g, q_o, q_m, g_r_g, g_r_o, g_r_m, newE rfl, keepE (by decide) k1, (fun h => by rw [setB_other _ _ _ (by decide)] at h; rw [setV_other _ _ _ _ (by decide)]; exact k2 h), keepE (by decide) k3, keepE (by decide) k4, (fun h => by rw [setB_other _ _ _ (by decide)] at h; rw [setV_other _ _ _ _ (by decide)]; exact k5 h), (fun h => by rw [setB_other _ _ _ (by decide)] at h; rw [setV_other _ _ _ _ (by decide)]; exact k6 h), ⟨fun h => by rw [setB_other _ _ _ (by decide)] at h; exact k7.1 h, fun h => by rw [setB_other _ _ _ (by decide)] at h; exact k7.2 h⟩⟩
        · obtain rfl := Option.some.inj ho
          have d0 := k0 (hall ⟨0, .data⟩ (by simp) rfl)
          refine g_cell2 _ (w.heap.size) 1 (cl (f) (s) (r)) 25 _ (show v 0 = _ from d0) q_c (rfl) ?_
          exact ⟨hC, q_c, q_g, q_o, q_m, g_r_g, g_r_o, g_r_m, keepE (by decide) k0, newE rfl, (fun h => by rw [setB_other _ _ _ (by decide)] at h; rw [setV_other _ _ _ _ (by decide)]; exact k2 h), keepE (by decide) k3, keepE (by decide) k4, (fun h => by rw [setB_other _ _ _ (by decide)] at h; rw [setV_other _ _ _ _ (by decide)]; exact k5 h), (fun h => by rw [setB_other _ _ _ (by decide)] at h; rw [setV_other _ _ _ _ (by decide)]; exact k6 h), ⟨fun h => by rw [setB_other _ _ _ (by decide)] at h; exact k7.1 h, fun h => by rw [setB_other _ _ _ (by decide)] at h; exact k7.2 h⟩⟩
        · obtain rfl := Option.some.inj ho
          have d1 := k1 (hall ⟨1, .data⟩ (by simp) rfl)
          refine g_call 26 _ _ [.int .i64 (s)] (kf26 _ _) (by show ([v 1] : List Value) = _; rw [d1]; (try rfl)) ((rof_any s wx hs).mono ?_)
          rintro e w' ⟨u_, rfl, hp, hb⟩
          exact ⟨_, rfl, hC.trans (hb.mono hnw), q_c.below hb q_c.lt, q_g.below hb q_g.lt, q_o.below hb q_o.lt, q_m.below hb q_m.lt, g_r_g.below hb, g_r_o.below hb, g_r_m.below hb, keepE (by decide) k0, keepE (by decide) k1, (fun _ => by rw [setV_self]; exact hp), keepE (by decide) k3, keepE (by decide) k4, (fun h => by rw [setB_other _ _ _ (by decide)] at h; rw [setV_other _ _ _ _ (by decide)]; exact (k5 h).below hb), (fun h => by rw [setB_other _ _ _ (by decide)] at h; rw [setV_other _ _ _ _ (by decide)]; exact (k6 h).below hb), ⟨fun h => by rw [setB_other _ _ _ (by decide)] at h; exact (k7.1 h).below hb (k7.1 h).lt, fun h => by rw [setB_other _ _ _ (by decide)] at h; exact (k7.2 h).below hb⟩⟩
        · obtain rfl := Option.some.inj ho
          refine g_load_all 54 _ (p_g) ([.bool s_g, v_g]) 54 _ rfl q_g Try.underlying54 rfl (szR) ?_
          exact ⟨hC, q_c, q_g, q_o, q_m, g_r_g, g_r_o, g_r_m, keepE (by decide) k0, keepE (by decide) k1, (fun h => by rw [setB_other _ _ _ (by decide)] at h; rw [setV_other _ _ _ _ (by decide)]; exact k2 h), newE rfl, keepE (by decide) k4, (fun h => by rw [setB_other _ _ _ (by decide)] at h; rw [setV_other _ _ _ _ (by decide)]; exact k5 h), (fun h => by rw [setB_other _ _ _ (by decide)] at h; rw [setV_other _ _ _ _ (by decide)]; exact k6 h), ⟨fun h => by rw [setB_other _ _ _ (by decide)] at h; exact k7.1 h, fun h => by rw [setB_other _ _ _ (by decide)] at h; exact k7.2 h⟩⟩
        · obtain rfl := Option.some.inj ho
          refine g_load_all 54 _ (p_o) ([.bool s_o, v_o]) 54 _ rfl q_o Try.underlying54 rfl (szR) ?_
          exact ⟨hC, q_c, q_g, q_o, q_m, g_r_g, g_r_o, g_r_m, keepE (by decide) k0, keepE (by decide) k1, (fun h => by rw [setB_other _ _ _ (by decide)] at h; rw [setV_other _ _ _ _ (by decide)]; exact k2 h), keepE (by decide) k3, newE rfl, (fun h => by rw [setB_other _ _ _ (by decide)] at h; rw [setV_other _ _ _ _ (by decide)]; exact k5 h), (fun h => by rw [setB_other _ _ _ (by decide)] at h; rw [setV_other _ _ _ _ (by decide)]; exact k6 h), ⟨fun h => by rw [setB_other _ _ _ (by decide)] at h; exact k7.1 h, fun h => by rw [setB_other _ _ _ (by decide)] at h; exact k7.2 h⟩⟩
        · obtain rfl := Option.some.inj ho
          have d3 := k3 (hall ⟨3, .data⟩ (by simp) rfl)
          have d4 := k4 (hall ⟨4, .data⟩ (by simp) rfl)
          refine g_call 25 _ _ [.agg #[.bool s_g, v_g], .agg #[.bool s_o, v_o]] (kf25 _ _) (by show ([v 3, v 4] : List Value) = _; rw [d3, d4]; (try rfl)) ((radd_any _ _ n (P / 1000000000) X wx ⟨_, _, rfl, g_r_g⟩ ⟨_, _, rfl, g_r_o⟩ fn fQ hX).mono ?_)
          rintro e w' ⟨u_, rfl, hp, hb⟩
          exact ⟨_, rfl, hC.trans (hb.mono hnw), q_c.below hb q_c.lt, q_g.below hb q_g.lt, q_o.below hb q_o.lt, q_m.below hb q_m.lt, g_r_g.below hb, g_r_o.below hb, g_r_m.below hb, keepE (by decide) k0, keepE (by decide) k1, (fun h => by rw [setB_other _ _ _ (by decide)] at h; rw [setV_other _ _ _ _ (by decide)]; exact (k2 h).below hb), keepE (by decide) k3, keepE (by decide) k4, (fun _ => by rw [setV_self]; exact hp), (fun h => by rw [setB_other _ _ _ (by decide)] at h; rw [setV_other _ _ _ _ (by decide)]; exact (k6 h).below hb), ⟨fun h => by rw [setB_other _ _ _ (by decide)] at h; exact (k7.1 h).below hb (k7.1 h).lt, fun h => by rw [setB_other _ _ _ (by decide)] at h; exact (k7.2 h).below hb⟩⟩
        · obtain rfl := Option.some.inj ho
          have d2 := k2 (hall ⟨2, .data⟩ (by simp) rfl)
          have d5 := k5 (hall ⟨5, .data⟩ (by simp) rfl)
          refine g_call 25 _ _ [v 2, v 5] (kf25 _ _) (rfl) ((radd_any _ _ s X Y wx d2 d5 fs fX hY).mono ?_)
          rintro e w' ⟨u_, rfl, hp, hb⟩
          exact ⟨_, rfl, hC.trans (hb.mono hnw), q_c.below hb q_c.lt, q_g.below hb q_g.lt, q_o.below hb q_o.lt, q_m.below hb q_m.lt, g_r_g.below hb, g_r_o.below hb, g_r_m.below hb, keepE (by decide) k0, keepE (by decide) k1, (fun h => by rw [setB_other _ _ _ (by decide)] at h; rw [setV_other _ _ _ _ (by decide)]; exact (k2 h).below hb), keepE (by decide) k3, keepE (by decide) k4, (fun h => by rw [setB_other _ _ _ (by decide)] at h; rw [setV_other _ _ _ _ (by decide)]; exact (k5 h).below hb), (fun _ => by rw [setV_self]; exact hp), ⟨fun h => by rw [setB_other _ _ _ (by decide)] at h; exact (k7.1 h).below hb (k7.1 h).lt, fun h => by rw [setB_other _ _ _ (by decide)] at h; exact (k7.2 h).below hb⟩⟩
        · obtain rfl := Option.some.inj ho
          have hold := k7.1 hti
          have hlo := l_r
          obtain ⟨s8, b8, e8, r8⟩ := k6 (hall ⟨6, .data⟩ (by simp) rfl)
          refine g_store_all 54 _ _ (w1.heap.size) [.bool s8, b8] _ 54 rfl (show v 6 = _ from e8) hold szR rfl (one_rc _ _ r8.sl) (fun w' h1 h2 => ?_)
          exact ⟨h1.below hC hlo, h1.blk q_c (by omega), h1.blk q_g (by omega), h1.blk q_o (by omega), h1.blk q_m (by omega), g_r_g.turn h1 hold (by decide), g_r_o.turn h1 hold (by decide), g_r_m.turn h1 hold (by decide), keepE (by decide) k0, keepE (by decide) k1, (fun h => by rw [setB_other _ _ _ (by decide)] at h; rw [setV_other _ _ _ _ (by decide)]; exact (k2 h).turn h1 hold (by decide)), keepE (by decide) k3, keepE (by decide) k4, (fun h => by rw [setB_other _ _ _ (by decide)] at h; rw [setV_other _ _ _ _ (by decide)]; exact (k5 h).turn h1 hold (by decide)), (fun h => by rw [setB_other _ _ _ (by decide)] at h; rw [setV_other _ _ _ _ (by decide)]; exact (k6 h).turn h1 hold (by decide)), ⟨(fun h => by have := setB_self t 7; rw [h] at this; cases this), fun _ => ⟨_, _, h2, r8.turn h1 hold (by decide)⟩⟩⟩
        · simp at ho
      · simp only [full, Act.put, List.setIfInBounds_toArray, List.set_cons_succ, List.set_cons_zero, Nat.zero_add, Nat.reduceAdd]
        intro t v w5 hS ht
        obtain ⟨hC, q_c, q_g, q_o, q_m, g_r_g, g_r_o, g_r_m, k0, k1, k2, k3, k4, k5, k6, k7⟩ := hS
        obtain ⟨s_r3, v_r3, h_r, r_r3⟩ := k7.2 (ht 7 (by decide))
        have d0 := k0 (ht 0 (by decide)); (try rw [d0])
        clear d0
        have d1 := k1 (ht 1 (by decide)); (try rw [d1])
        clear d1
        have d3 := k3 (ht 3 (by decide)); (try rw [d3])
        clear d3
        have d4 := k4 (ht 4 (by decide)); (try rw [d4])
        clear d4
        clear ht k0 k1 k2 k3 k4 k5 k6 k7 lt_c lt_r lt_g lt_o lt_m
        generalize v 2 = y3_2
        generalize v 5 = y3_5
        generalize v 6 = y3_6
        generalize v 7 = y3_7
        replace b_c := q_c
        clear q_c
        replace b_g := q_g
        clear q_g
        replace b_o := q_o
        clear q_o
        replace b_m := q_m
        clear q_m
        replace r_g := g_r_g
        clear g_r_g
        replace r_o := g_r_o
        clear g_r_o
        replace r_m := g_r_m
        clear g_r_m
        replace b_r := h_r
        clear h_r
        replace hB := hB.trans hC
        clear hC hB0
        go_wp2_with fail
        exact bodyPost_ret (results_blk rfl _ _ _ rfl b_r Try.underlying54 rfl szR) rfl ⟨_, rfl, ⟨_, _, rfl, r_r3⟩, hB⟩

theorem few64 (z : Int) (h : In64 z) : Few z 200 := by unfold In64 at h; exact few128 _ (by omega)
theorem shw_few (f s r t : Int) (hs : In64 s) (hr : In64 r) (hn : In64 (t - f)) : -200000000000000000000000000000 ≤ shw f s r t ∧ shw f s r t ≤ 200000000000000000000000000000 := by
  obtain ⟨-, hq⟩ := part_128 (t - f) r _ _ hn hr rfl rfl
  unfold In64 at hs hn
  unfold shw
  omega
theorem rshows_any (f s r t : Int) (w : World) (hf : In64 f) (hs : In64 s) (hr : In64 r) (ht : In64 t) (hn : In64 (t - f)) :
    Calls Try.prog 29 #[.agg (cl f s r).toArray, .int .i64 t] w fun e w' => ∃ u, e = .returned u ∧ RN w' u (shw f s r t) ∧ Below w.heap.size w w' := by
  obtain ⟨iP, hq⟩ := part_128 (t - f) r _ _ hn hr rfl rfl
  have hf' := hf
  have hn' := hn
  unfold In64 at hf' hn'
  unfold In128 at iP
  exact rshows_l f s r t (t - f) _ _ _ w hf hs hr ht (by show _ = _; omega) rfl rfl (by show _ = _; unfold shw; omega) (by unfold In64; omega) (few64 f hf) (few64 t ht) (few128 _ (by omega)) (few64 _ hn) (few64 r hr) (few128 _ (by omega)) (few128 _ (by omega)) (few128 _ (by omega)) (few64 s hs) (few128 _ (by omega))

end Go.Proofs.Ytcllmobjdnhmlaa
