/- What the reference's Era, Since and From (of a wide number) answer; nothing that was there is changed. -/
import Derived.Test.YtpeiboehdjhimaaRefTimes
import Derived.Test.YtpeiboehdjhimaaRf1
namespace Go.Proofs.Ytpeiboehdjhimaa
open Go Go.RowKit
set_option linter.unusedVariables false
theorem from_z (z h l : Int) (w : World) (hz : In128 z) (hh : Hid (z / 18446744073709551616 = h)) (hl : Hid (z % 18446744073709551616 = l)) :
    Calls Try.prog 14 #[.int .i64 h, .int .u64 l] w fun e w' => ∃ u, e = .returned u ∧ RN w' u z ∧ Below w.heap.size w w' := by
  have h1 := hh.out
  have h2 := hl.out
  unfold In128 at hz
  obtain ⟨m, rfl⟩ : ∃ m : Nat, l = m := ⟨l.toNat, by omega⟩
  exact from_l h (h * 18446744073709551616) z m w (by unfold In64; omega) (by omega) rfl (few128 _ (by omega)) (few128 _ (by omega)) (by show _ = _; omega)

set_option maxRecDepth 10000 in
set_option maxHeartbeats 4000000 in
theorem era_any (w : World) : Calls Try.prog 39 #[] w fun e w' => ∃ u, e = .returned u ∧ RN w' u 18446744073709551616 ∧ Below w.heap.size w w' := by
  have j32 : In64 4294967296 := by unfold In64; omega
  have f32 : Few 4294967296 200 := few128 _ (by omega)
  have hE : Hid ((4294967296 : Int) * 4294967296 = 18446744073709551616) := by show _ = _; decide
  go_enter Try.func39, Try.ntmps39
  go_wp2_with (first
    | ((with_reducible refine at_allocD 0 32 ?_); refine L_alloc 32 ([.bool false, .slice none 0 0]) zeroR ?_; intro w1 t_ b_r; have l_r : w.heap.size ≤ w.heap.size := Nat.le_refl _; have hB : Below w.heap.size w w1 := t_.below (Below.refl _ _) (Nat.le_refl _); clear t_))
  refine (rof_any 4294967296 w1 j32).mono ?_
  rintro e w2 ⟨_, rfl, ⟨s_n1, v_n1, rfl, r_n1⟩, t_⟩
  replace b_r := b_r.below t_ b_r.lt
  replace hB := hB.trans (t_.mono hB.size)
  clear t_
  go_wp2_with fail
  refine (rof_any 4294967296 w2 j32).mono ?_
  rintro e w3 ⟨_, rfl, ⟨s_n2, v_n2, rfl, r_n2⟩, t_⟩
  replace r_n1 := r_n1.below t_
  replace b_r := b_r.below t_ b_r.lt
  replace hB := hB.trans (t_.mono hB.size)
  clear t_
  go_wp2_with fail
  refine (rtimes_any _ _ 4294967296 4294967296 18446744073709551616 w3 ⟨_, _, rfl, r_n1⟩ ⟨_, _, rfl, r_n2⟩ f32 f32 hE).mono ?_
  rintro e w4 ⟨_, rfl, ⟨s_n3, v_n3, rfl, r_n3⟩, t_⟩
  replace r_n1 := r_n1.below t_
  replace r_n2 := r_n2.below t_
  replace b_r := b_r.below t_ b_r.lt
  replace hB := hB.trans (t_.mono hB.size)
  clear t_
  go_wp2_with (first
    | ((with_reducible refine at_storeX 0 32 ?_); refine L_store_all 32 _ _ (w.heap.size) ([.bool s_n3, v_n3]) _ 32 rfl rfl b_r (szR) (rfl) (one_rc _ _ r_n3.sl) ?_; have b0_r := b_r; clear b_r; intro w5 t_ b_r; replace r_n1 := r_n1.turn t_ b0_r (by decide); replace r_n2 := r_n2.turn t_ b0_r (by decide); replace r_n3 := r_n3.turn t_ b0_r (by decide); replace hB := t_.below hB l_r; clear t_ b0_r))
  exact bodyPost_ret (results_blk rfl _ _ _ rfl b_r Try.underlying32 rfl szR) rfl ⟨_, rfl, ⟨_, _, rfl, r_n3⟩, hB⟩

set_option maxRecDepth 10000 in
set_option maxHeartbeats 4000000 in
theorem rsince_ok0 (sa sb : Bool) (ba bb : Value) (y z D h l : Int) (w : World) (ra : RF w sa ba y) (rb : RF w sb bb z) (fy : Few y 200) (fz : Few z 200) (fz2 : Few (-z) 200) (fD : Few D 200) (hD : Hid (y + -z = D)) (iD : In128 D) (hh : Hid (D / 18446744073709551616 = h)) (hl : Hid (D % 18446744073709551616 = l)) (hw_ : IntKind.i64.wrap l = D) (hfi : Hid (decide (-((2 : Int) ^ 63) ≤ D ∧ D < (2 : Int) ^ 63) = true)) :
    Calls Try.prog 18 #[.agg #[.bool sa, ba], .agg #[.bool sb, bb]] w fun e w' => e = .returned (.tuple #[.int .i64 D, .int .i64 0]) ∧ Below w.heap.size w w' := by
  go_enter Try.func18, Try.ntmps18
  go_wp2_with (first
    | ((with_reducible refine at_boxD 2 32 ?_); refine L_box 32 _ ([.bool sa, ba]) rfl ?_; intro w1 t_ b_a; have l_a : w.heap.size ≤ w.heap.size := Nat.le_refl _; replace ra := ra.below t_.toBelow; replace rb := rb.below t_.toBelow; have hB : Below w.heap.size w w1 := t_.below (Below.refl _ _) (Nat.le_refl _); clear t_)
    | ((with_reducible refine at_boxD 3 32 ?_); refine L_box 32 _ ([.bool sb, bb]) rfl ?_; intro w2 t_ b_b; have l_b : w.heap.size ≤ w1.heap.size := hB.size; have o_b := b_a.lt; replace ra := ra.below t_.toBelow; replace rb := rb.below t_.toBelow; replace b_a := t_.blk b_a (by omega); replace hB := t_.below hB l_b; clear t_)
    | ((with_reducible refine stop_region 1 ?_); intro X1 hX1))
  refine hX1.out ?_
  clear hX1
  refine wp_region_inv (by kernel_rfl) (by kernel_rfl) (fun t v wx => Below w2.heap.size w2 wx ∧ (t 0 = true → v 0 = .agg #[.bool sa, ba]) ∧ (t 1 = true → v 1 = .agg #[.bool sb, bb]) ∧ (t 2 = true → RN wx (v 2) (-z)) ∧ (t 3 = true → RN wx (v 3) (D)) ∧ (t 4 = true → ∃ p, v 4 = .pointer (some ⟨p, 0, none⟩) ∧ p < wx.heap.size ∧ w2.heap.size ≤ p ∧ (t 5 = false → Blk wx p [.bool false, .slice none 0 0] 32) ∧ (t 5 = true → RA wx p (D))) ∧ (t 5 = true → t 4 = true)) ?_ ?_ ?_
  · exact ⟨(Below.refl _ _).drew, (fun h => by cases h), (fun h => by cases h), (fun h => by cases h), (fun h => by cases h), (fun h => by cases h), (fun h => by cases h)⟩
  · simp only [full, Act.put, List.setIfInBounds_toArray, List.set_cons_succ, List.set_cons_zero, Nat.zero_add, Nat.reduceAdd]
    intro i o ho t v wx hS hti hall
    obtain ⟨hC, k0, k1, k2, k3, k4, k5⟩ := hS
    rcases i with _ | _ | _ | _ | _ | _ | i
    · obtain rfl := Option.some.inj ho
      refine g_load_all 32 _ (w.heap.size) ([.bool sa, ba]) 32 _ rfl (b_a.below hC b_a.lt) Try.underlying32 rfl (szR) ?_
      exact ⟨hC, newE rfl, keepE (by decide) k1, (fun h => by rw [setB_other _ _ _ (by decide)] at h; rw [setV_other _ _ _ _ (by decide)]; exact k2 h), (fun h => by rw [setB_other _ _ _ (by decide)] at h; rw [setV_other _ _ _ _ (by decide)]; exact k3 h), (fun h => by rw [setB_other _ _ _ (by decide)] at h; obtain ⟨p, e1, e2, e4, e3, e5⟩ := k4 h; refine ⟨p, by rw [setV_other _ _ _ _ (by decide)]; exact e1, e2, e4, fun h5 => ?_, fun h5 => ?_⟩ <;> rw [setB_other _ _ _ (by decide)] at h5 <;> first | exact e3 h5 | exact e5 h5), (fun h => by rw [setB_other _ _ _ (by decide)] at h ⊢; exact k5 h)⟩
    · obtain rfl := Option.some.inj ho
      refine g_load_all 32 _ (w1.heap.size) ([.bool sb, bb]) 32 _ rfl (b_b.below hC b_b.lt) Try.underlying32 rfl (szR) ?_
      exact ⟨hC, keepE (by decide) k0, newE rfl, (fun h => by rw [setB_other _ _ _ (by decide)] at h; rw [setV_other _ _ _ _ (by decide)]; exact k2 h), (fun h => by rw [setB_other _ _ _ (by decide)] at h; rw [setV_other _ _ _ _ (by decide)]; exact k3 h), (fun h => by rw [setB_other _ _ _ (by decide)] at h; obtain ⟨p, e1, e2, e4, e3, e5⟩ := k4 h; refine ⟨p, by rw [setV_other _ _ _ _ (by decide)]; exact e1, e2, e4, fun h5 => ?_, fun h5 => ?_⟩ <;> rw [setB_other _ _ _ (by decide)] at h5 <;> first | exact e3 h5 | exact e5 h5), (fun h => by rw [setB_other _ _ _ (by decide)] at h ⊢; exact k5 h)⟩
    · obtain rfl := Option.some.inj ho
      have d1 := k1 (hall ⟨1, .data⟩ (by simp) rfl)
      refine g_call 38 _ _ [.agg #[.bool sb, bb]] (kf38 _ _) (by show ([v 1] : List Value) = _; rw [d1]; (try rfl)) ((less_any _ z wx ⟨_, _, rfl, rb.below hC⟩ fz).mono ?_)
      rintro e w' ⟨u_, rfl, hp, hb⟩
      exact ⟨_, rfl, hC.trans (hb.mono hC.size), keepE (by decide) k0, keepE (by decide) k1, (fun _ => by rw [setV_self]; exact hp), (fun h => by rw [setB_other _ _ _ (by decide)] at h; rw [setV_other _ _ _ _ (by decide)]; exact (k3 h).below hb), (fun h => by rw [setB_other _ _ _ (by decide)] at h; obtain ⟨p, e1, e2, e4, e3, e5⟩ := k4 h; refine ⟨p, by rw [setV_other _ _ _ _ (by decide)]; exact e1, Nat.lt_of_lt_of_le e2 hb.size, e4, fun h5 => ?_, fun h5 => ?_⟩ <;> rw [setB_other _ _ _ (by decide)] at h5 <;> first | exact (e3 h5).below hb e2 | exact (e5 h5).below hb), (fun h => by rw [setB_other _ _ _ (by decide)] at h ⊢; exact k5 h)⟩
    · obtain rfl := Option.some.inj ho
      have d0 := k0 (hall ⟨0, .data⟩ (by simp) rfl)
      have d2 := k2 (hall ⟨2, .data⟩ (by simp) rfl)
      refine g_call 37 _ _ [.agg #[.bool sa, ba], v 2] (kf37 _ _) (by show ([v 0, v 2] : List Value) = _; rw [d0]; (try rfl)) ((radd_any _ _ y (-z) D wx ⟨_, _, rfl, ra.below hC⟩ d2 fy fz2 hD).mono ?_)
      rintro e w' ⟨u_, rfl, hp, hb⟩
      exact ⟨_, rfl, hC.trans (hb.mono hC.size), keepE (by decide) k0, keepE (by decide) k1, (fun h => by rw [setB_other _ _ _ (by decide)] at h; rw [setV_other _ _ _ _ (by decide)]; exact (k2 h).below hb), (fun _ => by rw [setV_self]; exact hp), (fun h => by rw [setB_other _ _ _ (by decide)] at h; obtain ⟨p, e1, e2, e4, e3, e5⟩ := k4 h; refine ⟨p, by rw [setV_other _ _ _ _ (by decide)]; exact e1, Nat.lt_of_lt_of_le e2 hb.size, e4, fun h5 => ?_, fun h5 => ?_⟩ <;> rw [setB_other _ _ _ (by decide)] at h5 <;> first | exact (e3 h5).below hb e2 | exact (e5 h5).below hb), (fun h => by rw [setB_other _ _ _ (by decide)] at h ⊢; exact k5 h)⟩
    · obtain rfl := Option.some.inj ho
      refine g_alloc 32 _ zeroR (fun w' h1 h2 => ?_)
      have hb := h1.toBelow
      exact ⟨hC.trans (hb.mono hC.size), keepE (by decide) k0, keepE (by decide) k1, (fun h => by rw [setB_other _ _ _ (by decide)] at h; rw [setV_other _ _ _ _ (by decide)]; exact (k2 h).below hb), (fun h => by rw [setB_other _ _ _ (by decide)] at h; rw [setV_other _ _ _ _ (by decide)]; exact (k3 h).below hb), (fun _ => ⟨wx.heap.size, setV_self _ _ _, h2.lt, hC.size, fun _ => h2, fun h => by rw [setB_other _ _ _ (by decide)] at h; have := k5 h; rw [hti] at this; cases this⟩), (fun _ => setB_self _ _)⟩
    · obtain rfl := Option.some.inj ho
      have ht_ := hall ⟨4, .data⟩ (by simp) rfl
      obtain ⟨p, e1, e2, e4, e3, e5⟩ := k4 ht_
      obtain ⟨s8, b8, e8, r8⟩ := k3 (hall ⟨3, .data⟩ (by simp) rfl)
      refine g_store_all 32 _ _ p [.bool s8, b8] _ 32 (show v 4 = _ from e1) (show v 3 = _ from e8) (e3 hti) szR rfl (one_rc _ _ r8.sl) (fun w' h1 h2 => ?_)
      exact ⟨h1.below hC e4, keepE (by decide) k0, keepE (by decide) k1, (fun h => by rw [setB_other _ _ _ (by decide)] at h; rw [setV_other _ _ _ _ (by decide)]; exact (k2 h).turn h1 (e3 hti) (by decide)), (fun h => by rw [setB_other _ _ _ (by decide)] at h; rw [setV_other _ _ _ _ (by decide)]; exact (k3 h).turn h1 (e3 hti) (by decide)), (fun h => ⟨p, by rw [setV_other _ _ _ _ (by decide)]; exact e1, Nat.lt_of_lt_of_le e2 h1.size, e4, (fun h => by have := setB_self t 5; rw [h] at this; cases this), fun _ => ⟨_, _, h2, r8.turn h1 (e3 hti) (by decide)⟩⟩), (fun _ => by rw [setB_other _ _ _ (by decide)]; exact ht_)⟩
    · simp at ho
  · simp only [full, Act.put, List.setIfInBounds_toArray, List.set_cons_succ, List.set_cons_zero, Nat.zero_add, Nat.reduceAdd]
    intro t v w3 hS ht
    obtain ⟨hC, k0, k1, k2, k3, k4, k5⟩ := hS
    obtain ⟨p_d, e1, -, e4, -, e5⟩ := k4 (ht 4 (by decide))
    obtain ⟨s_d, v_d, b_d, r_d⟩ := e5 (ht 5 (by decide))
    rw [e1]
    have d0 := k0 (ht 0 (by decide)); (try rw [d0])
    clear d0
    have d1 := k1 (ht 1 (by decide)); (try rw [d1])
    clear d1
    clear ht k0 k1 k2 k3 k4 k5 e1 e5
    generalize v 2 = y1_2
    generalize v 3 = y1_3
    generalize v 5 = y1_5
    have l_d : w.heap.size ≤ p_d := Nat.le_trans hB.size e4
    have o_d : w1.heap.size < p_d := Nat.lt_of_lt_of_le b_b.lt e4
    clear e4
    replace ra := ra.below hC
    replace rb := rb.below hC
    replace b_a := b_a.below hC b_a.lt
    replace b_b := b_b.below hC b_b.lt
    replace hB := hB.trans (hC.mono hB.size)
    clear hC
    go_wp2_with (first
      | ((with_reducible refine at_loadD 13 32 ?_); refine L_load_all 32 _ (p_d) ([.bool s_d, v_d]) 32 _ rfl b_d Try.underlying32 rfl (szR) ?_))
    refine (fits_any _ D 63 w3 true ⟨_, _, rfl, r_d⟩ fD hfi).mono ?_
    rintro e w4 ⟨rfl, t_⟩
    replace ra := ra.below t_
    replace rb := rb.below t_
    replace r_d := r_d.below t_
    replace b_a := b_a.below t_ b_a.lt
    replace b_b := b_b.below t_ b_b.lt
    replace b_d := b_d.below t_ b_d.lt
    replace hB := hB.trans (t_.mono hB.size)
    clear t_
    go_wp2_with (first
      | ((with_reducible refine at_loadD 17 32 ?_); refine L_load_all 32 _ (p_d) ([.bool s_d, v_d]) 32 _ rfl b_d Try.underlying32 rfl (szR) ?_))
    refine (wide_any _ D h l w4 ⟨_, _, rfl, r_d⟩ iD hh hl).mono ?_
    rintro e w5 ⟨rfl, t_⟩
    replace ra := ra.below t_
    replace rb := rb.below t_
    replace r_d := r_d.below t_
    replace b_a := b_a.below t_ b_a.lt
    replace b_b := b_b.below t_ b_b.lt
    replace b_d := b_d.below t_ b_d.lt
    replace hB := hB.trans (t_.mono hB.size)
    clear t_
    go_wp2_with fail
    go_ret2
    exact ⟨rfl, hB⟩

set_option maxRecDepth 10000 in
set_option maxHeartbeats 4000000 in
theorem rsince_over0 (sa sb : Bool) (ba bb : Value) (y z D : Int) (w : World) (ra : RF w sa ba y) (rb : RF w sb bb z) (fy : Few y 200) (fz : Few z 200) (fz2 : Few (-z) 200) (fD : Few D 200) (hD : Hid (y + -z = D)) (hfi : Hid (decide (-((2 : Int) ^ 63) ≤ D ∧ D < (2 : Int) ^ 63) = false)) :
    Calls Try.prog 18 #[.agg #[.bool sa, ba], .agg #[.bool sb, bb]] w fun e w' => e = .returned (.tuple #[.int .i64 0, .int .i64 6]) ∧ Below w.heap.size w w' := by
  go_enter Try.func18, Try.ntmps18
  go_wp2_with (first
    | ((with_reducible refine at_boxD 2 32 ?_); refine L_box 32 _ ([.bool sa, ba]) rfl ?_; intro w1 t_ b_a; have l_a : w.heap.size ≤ w.heap.size := Nat.le_refl _; replace ra := ra.below t_.toBelow; replace rb := rb.below t_.toBelow; have hB : Below w.heap.size w w1 := t_.below (Below.refl _ _) (Nat.le_refl _); clear t_)
    | ((with_reducible refine at_boxD 3 32 ?_); refine L_box 32 _ ([.bool sb, bb]) rfl ?_; intro w2 t_ b_b; have l_b : w.heap.size ≤ w1.heap.size := hB.size; have o_b := b_a.lt; replace ra := ra.below t_.toBelow; replace rb := rb.below t_.toBelow; replace b_a := t_.blk b_a (by omega); replace hB := t_.below hB l_b; clear t_)
    | ((with_reducible refine stop_region 1 ?_); intro X1 hX1))
  refine hX1.out ?_
  clear hX1
  refine wp_region_inv (by kernel_rfl) (by kernel_rfl) (fun t v wx => Below w2.heap.size w2 wx ∧ (t 0 = true → v 0 = .agg #[.bool sa, ba]) ∧ (t 1 = true → v 1 = .agg #[.bool sb, bb]) ∧ (t 2 = true → RN wx (v 2) (-z)) ∧ (t 3 = true → RN wx (v 3) (D)) ∧ (t 4 = true → ∃ p, v 4 = .pointer (some ⟨p, 0, none⟩) ∧ p < wx.heap.size ∧ w2.heap.size ≤ p ∧ (t 5 = false → Blk wx p [.bool false, .slice none 0 0] 32) ∧ (t 5 = true → RA wx p (D))) ∧ (t 5 = true → t 4 = true)) ?_ ?_ ?_
  · exact ⟨(Below.refl _ _).drew, (fun h => by cases h), (fun h => by cases h), (fun h => by cases h), (fun h => by cases h), (fun h => by cases h), (fun h => by cases h)⟩
  · simp only [full, Act.put, List.setIfInBounds_toArray, List.set_cons_succ, List.set_cons_zero, Nat.zero_add, Nat.reduceAdd]
    intro i o ho t v wx hS hti hall
    obtain ⟨hC, k0, k1, k2, k3, k4, k5⟩ := hS
    rcases i with _ | _ | _ | _ | _ | _ | i
    · obtain rfl := Option.some.inj ho
      refine g_load_all 32 _ (w.heap.size) ([.bool sa, ba]) 32 _ rfl (b_a.below hC b_a.lt) Try.underlying32 rfl (szR) ?_
      exact ⟨hC, newE rfl, keepE (by decide) k1, (fun h => by rw [setB_other _ _ _ (by decide)] at h; rw [setV_other _ _ _ _ (by decide)]; exact k2 h), (fun h => by rw [setB_other _ _ _ (by decide)] at h; rw [setV_other _ _ _ _ (by decide)]; exact k3 h), (fun h => by rw [setB_other _ _ _ (by decide)] at h; obtain ⟨p, e1, e2, e4, e3, e5⟩ := k4 h; refine ⟨p, by rw [setV_other _ _ _ _ (by decide)]; exact e1, e2, e4, fun h5 => ?_, fun h5 => ?_⟩ <;> rw [setB_other _ _ _ (by decide)] at h5 <;> first | exact e3 h5 | exact e5 h5), (fun h => by rw [setB_other _ _ _ (by decide)] at h ⊢; exact k5 h)⟩
    · obtain rfl := Option.some.inj ho
      refine g_load_all 32 _ (w1.heap.size) ([.bool sb, bb]) 32 _ rfl (b_b.below hC b_b.lt) Try.underlying32 rfl (szR) ?_
      exact ⟨hC, keepE (by decide) k0, newE rfl, (fun h => by rw [setB_other _ _ _ (by decide)] at h; rw [setV_other _ _ _ _ (by decide)]; exact k2 h), (fun h => by rw [setB_other _ _ _ (by decide)] at h; rw [setV_other _ _ _ _ (by decide)]; exact k3 h), (fun h => by rw [setB_other _ _ _ (by decide)] at h; obtain ⟨p, e1, e2, e4, e3, e5⟩ := k4 h; refine ⟨p, by rw [setV_other _ _ _ _ (by decide)]; exact e1, e2, e4, fun h5 => ?_, fun h5 => ?_⟩ <;> rw [setB_other _ _ _ (by decide)] at h5 <;> first | exact e3 h5 | exact e5 h5), (fun h => by rw [setB_other _ _ _ (by decide)] at h ⊢; exact k5 h)⟩
    · obtain rfl := Option.some.inj ho
      have d1 := k1 (hall ⟨1, .data⟩ (by simp) rfl)
      refine g_call 38 _ _ [.agg #[.bool sb, bb]] (kf38 _ _) (by show ([v 1] : List Value) = _; rw [d1]; (try rfl)) ((less_any _ z wx ⟨_, _, rfl, rb.below hC⟩ fz).mono ?_)
      rintro e w' ⟨u_, rfl, hp, hb⟩
      exact ⟨_, rfl, hC.trans (hb.mono hC.size), keepE (by decide) k0, keepE (by decide) k1, (fun _ => by rw [setV_self]; exact hp), (fun h => by rw [setB_other _ _ _ (by decide)] at h; rw [setV_other _ _ _ _ (by decide)]; exact (k3 h).below hb), (fun h => by rw [setB_other _ _ _ (by decide)] at h; obtain ⟨p, e1, e2, e4, e3, e5⟩ := k4 h; refine ⟨p, by rw [setV_other _ _ _ _ (by decide)]; exact e1, Nat.lt_of_lt_of_le e2 hb.size, e4, fun h5 => ?_, fun h5 => ?_⟩ <;> rw [setB_other _ _ _ (by decide)] at h5 <;> first | exact (e3 h5).below hb e2 | exact (e5 h5).below hb), (fun h => by rw [setB_other _ _ _ (by decide)] at h ⊢; exact k5 h)⟩
    · obtain rfl := Option.some.inj ho
      have d0 := k0 (hall ⟨0, .data⟩ (by simp) rfl)
      have d2 := k2 (hall ⟨2, .data⟩ (by simp) rfl)
      refine g_call 37 _ _ [.agg #[.bool sa, ba], v 2] (kf37 _ _) (by show ([v 0, v 2] : List Value) = _; rw [d0]; (try rfl)) ((radd_any _ _ y (-z) D wx ⟨_, _, rfl, ra.below hC⟩ d2 fy fz2 hD).mono ?_)
      rintro e w' ⟨u_, rfl, hp, hb⟩
      exact ⟨_, rfl, hC.trans (hb.mono hC.size), keepE (by decide) k0, keepE (by decide) k1, (fun h => by rw [setB_other _ _ _ (by decide)] at h; rw [setV_other _ _ _ _ (by decide)]; exact (k2 h).below hb), (fun _ => by rw [setV_self]; exact hp), (fun h => by rw [setB_other _ _ _ (by decide)] at h; obtain ⟨p, e1, e2, e4, e3, e5⟩ := k4 h; refine ⟨p, by rw [setV_other _ _ _ _ (by decide)]; exact e1, Nat.lt_of_lt_of_le e2 hb.size, e4, fun h5 => ?_, fun h5 => ?_⟩ <;> rw [setB_other _ _ _ (by decide)] at h5 <;> first | exact (e3 h5).below hb e2 | exact (e5 h5).below hb), (fun h => by rw [setB_other _ _ _ (by decide)] at h ⊢; exact k5 h)⟩
    · obtain rfl := Option.some.inj ho
      refine g_alloc 32 _ zeroR (fun w' h1 h2 => ?_)
      have hb := h1.toBelow
      exact ⟨hC.trans (hb.mono hC.size), keepE (by decide) k0, keepE (by decide) k1, (fun h => by rw [setB_other _ _ _ (by decide)] at h; rw [setV_other _ _ _ _ (by decide)]; exact (k2 h).below hb), (fun h => by rw [setB_other _ _ _ (by decide)] at h; rw [setV_other _ _ _ _ (by decide)]; exact (k3 h).below hb), (fun _ => ⟨wx.heap.size, setV_self _ _ _, h2.lt, hC.size, fun _ => h2, fun h => by rw [setB_other _ _ _ (by decide)] at h; have := k5 h; rw [hti] at this; cases this⟩), (fun _ => setB_self _ _)⟩
    · obtain rfl := Option.some.inj ho
      have ht_ := hall ⟨4, .data⟩ (by simp) rfl
      obtain ⟨p, e1, e2, e4, e3, e5⟩ := k4 ht_
      obtain ⟨s8, b8, e8, r8⟩ := k3 (hall ⟨3, .data⟩ (by simp) rfl)
      refine g_store_all 32 _ _ p [.bool s8, b8] _ 32 (show v 4 = _ from e1) (show v 3 = _ from e8) (e3 hti) szR rfl (one_rc _ _ r8.sl) (fun w' h1 h2 => ?_)
      exact ⟨h1.below hC e4, keepE (by decide) k0, keepE (by decide) k1, (fun h => by rw [setB_other _ _ _ (by decide)] at h; rw [setV_other _ _ _ _ (by decide)]; exact (k2 h).turn h1 (e3 hti) (by decide)), (fun h => by rw [setB_other _ _ _ (by decide)] at h; rw [setV_other _ _ _ _ (by decide)]; exact (k3 h).turn h1 (e3 hti) (by decide)), (fun h => ⟨p, by rw [setV_other _ _ _ _ (by decide)]; exact e1, Nat.lt_of_lt_of_le e2 h1.size, e4, (fun h => by have := setB_self t 5; rw [h] at this; cases this), fun _ => ⟨_, _, h2, r8.turn h1 (e3 hti) (by decide)⟩⟩), (fun _ => by rw [setB_other _ _ _ (by decide)]; exact ht_)⟩
    · simp at ho
  · simp only [full, Act.put, List.setIfInBounds_toArray, List.set_cons_succ, List.set_cons_zero, Nat.zero_add, Nat.reduceAdd]
    intro t v w3 hS ht
    obtain ⟨hC, k0, k1, k2, k3, k4, k5⟩ := hS
    obtain ⟨p_d, e1, -, e4, -, e5⟩ := k4 (ht 4 (by decide))
    obtain ⟨s_d, v_d, b_d, r_d⟩ := e5 (ht 5 (by decide))
    rw [e1]
    have d0 := k0 (ht 0 (by decide)); (try rw [d0])
    clear d0
    have d1 := k1 (ht 1 (by decide)); (try rw [d1])
    clear d1
    clear ht k0 k1 k2 k3 k4 k5 e1 e5
    generalize v 2 = y1_2
    generalize v 3 = y1_3
    generalize v 5 = y1_5
    have l_d : w.heap.size ≤ p_d := Nat.le_trans hB.size e4
    have o_d : w1.heap.size < p_d := Nat.lt_of_lt_of_le b_b.lt e4
    clear e4
    replace ra := ra.below hC
    replace rb := rb.below hC
    replace b_a := b_a.below hC b_a.lt
    replace b_b := b_b.below hC b_b.lt
    replace hB := hB.trans (hC.mono hB.size)
    clear hC
    go_wp2_with (first
      | ((with_reducible refine at_loadD 13 32 ?_); refine L_load_all 32 _ (p_d) ([.bool s_d, v_d]) 32 _ rfl b_d Try.underlying32 rfl (szR) ?_))
    refine (fits_any _ D 63 w3 false ⟨_, _, rfl, r_d⟩ fD hfi).mono ?_
    rintro e w4 ⟨rfl, t_⟩
    replace ra := ra.below t_
    replace rb := rb.below t_
    replace r_d := r_d.below t_
    replace b_a := b_a.below t_ b_a.lt
    replace b_b := b_b.below t_ b_b.lt
    replace b_d := b_d.below t_ b_d.lt
    replace hB := hB.trans (t_.mono hB.size)
    clear t_
    go_wp2_with fail
    go_ret2
    exact ⟨rfl, hB⟩

theorem rsince_ok (u v : Value) (y z D : Int) (w : World) (hu : RN w u y) (hv : RN w v z) (hy : In128 y) (hz : In128 z) (hD : Hid (y - z = D)) (jD : In64 D) :
    Calls Try.prog 18 #[u, v] w fun e w' => e = .returned (.tuple #[.int .i64 D, .int .i64 0]) ∧ Below w.heap.size w w' := by
  obtain ⟨sa, ba, rfl, ra⟩ := hu
  obtain ⟨sb, bb, rfl, rb⟩ := hv
  have hD := hD.out
  have hfi : Hid (decide (-((2 : Int) ^ 63) ≤ D ∧ D < (2 : Int) ^ 63) = true) := decide_eq_true jD
  unfold In128 at hy hz
  have j := jD
  unfold In64 at j
  exact rsince_ok0 sa sb ba bb y z D _ _ w ra rb (few128 _ (by omega)) (few128 _ (by omega)) (few128 _ (by omega)) (few128 _ (by omega)) (by show _ = _; omega) (jD.to) rfl rfl (by rw [IntKind.wrap_i64]; omega) hfi
theorem rsince_over (u v : Value) (y z : Int) (w : World) (hu : RN w u y) (hv : RN w v z) (hy : In128 y) (hz : In128 z) (jD : ¬ In64 (y - z)) :
    Calls Try.prog 18 #[u, v] w fun e w' => e = .returned (.tuple #[.int .i64 0, .int .i64 6]) ∧ Below w.heap.size w w' := by
  obtain ⟨sa, ba, rfl, ra⟩ := hu
  obtain ⟨sb, bb, rfl, rb⟩ := hv
  have hfi : Hid (decide (-((2 : Int) ^ 63) ≤ y - z ∧ y - z < (2 : Int) ^ 63) = false) := decide_eq_false jD
  unfold In128 at hy hz
  exact rsince_over0 sa sb ba bb y z (y - z) w ra rb (few128 _ (by omega)) (few128 _ (by omega)) (few128 _ (by omega)) (few128 _ (by omega)) (by show _ = _; omega) hfi

end Go.Proofs.Ytpeiboehdjhimaa
