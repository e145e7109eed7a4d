/- What the reference's Cmp answers. -/
import Derived.Test.YtpenicjlpiechaaDoorQRefFit
import Derived.Test.YtpenicjlpiechaaDoorQRefDiv
namespace Go.Proofs.YtpenicjlpiechaaDoor.Wd
set_option maxRecDepth 10000
open Go Go.RowKit
set_option linter.unusedVariables false
theorem rcmp_l (sa sb : Bool) (ba bb : Value) (za zb z R : Int) (w : World) (ra : RF w sa ba za) (rb : RF w sb bb zb) (fa : Few za 200) (fb : Few zb 200) (fb2 : Few (-zb) 200) (hz : Hid (za + -zb = z)) (hR : Hid ((if z < 0 then -1 else if z = 0 then 0 else 1) = R)) :
    Calls Tryd.prog 42 #[.agg #[.bool sa, ba], .agg #[.bool sb, bb]] w fun e w' => e = .returned (.int .i64 R) ∧ Below w.heap.size w w' := by
  go_enter Tryd.func42, Tryd.ntmps42
  go_wp2_with (first
    | ((with_reducible refine at_boxD 2 72 ?_); refine L_box 72 _ ([.bool sa, ba]) rfl ?_; intro w1 t_ b_a; have l_a : w.heap.size ≤ w.heap.size := Nat.le_refl _; replace ra := ra.below t_.toBelow; replace rb := rb.below t_.toBelow; have hB : Below w.heap.size w w1 := t_.below (Below.refl _ _) (Nat.le_refl _); clear t_)
    | ((with_reducible refine at_boxD 3 72 ?_); refine L_box 72 _ ([.bool sb, bb]) rfl ?_; intro w2 t_ b_b; have l_b : w.heap.size ≤ w1.heap.size := hB.size; have o_b := b_a.lt; replace ra := ra.below t_.toBelow; replace rb := rb.below t_.toBelow; replace b_a := t_.blk b_a (by omega); replace hB := t_.below hB l_b; clear t_)
    | ((with_reducible refine stop_region 1 ?_); intro X hX))
  refine hX.out ?_
  clear hX
  refine wp_region_inv (by kernel_rfl) (by kernel_rfl) (fun t v wx => Below w2.heap.size w2 wx ∧ (t 0 = true → v 0 = .agg #[.bool sa, ba]) ∧ (t 1 = true → v 1 = .agg #[.bool sb, bb]) ∧ (t 2 = true → RN wx (v 2) (-zb)) ∧ (t 3 = true → RN wx (v 3) z) ∧ (t 4 = true → ∃ p, v 4 = .pointer (some ⟨p, 0, none⟩) ∧ p < wx.heap.size ∧ w2.heap.size ≤ p ∧ (t 5 = false → Blk wx p [.bool false, .slice none 0 0] 72) ∧ (t 5 = true → RA wx p z)) ∧ (t 5 = true → t 4 = true)) ?_ ?_ ?_
  · exact ⟨(Below.refl _ _).drew, (fun h => by cases h), (fun h => by cases h), (fun h => by cases h), (fun h => by cases h), (fun h => by cases h), (fun h => by cases h)⟩
  · simp only [full, Act.put, List.setIfInBounds_toArray, List.set_cons_succ, List.set_cons_zero, Nat.zero_add, Nat.reduceAdd]
    intro i o ho t v wx hS hti hall
    obtain ⟨hC, k0, k1, k2, k3, k4, c5⟩ := hS
    rcases i with _ | _ | _ | _ | _ | _ | i
    · obtain rfl := Option.some.inj ho
      refine g_load_all 72 _ _ _ 72 _ rfl (b_a.below hC b_a.lt) Tryd.underlying72 rfl szR ?_
      exact ⟨hC, newE rfl, keepE (by decide) k1, (fun h => by rw [setB_other _ _ _ (by decide)] at h; rw [setV_other _ _ _ _ (by decide)]; exact k2 h), (fun h => by rw [setB_other _ _ _ (by decide)] at h; rw [setV_other _ _ _ _ (by decide)]; exact k3 h), (fun h => by rw [setB_other _ _ _ (by decide)] at h; obtain ⟨p, e1, e2, e4, e3, e5⟩ := k4 h; refine ⟨p, by rw [setV_other _ _ _ _ (by decide)]; exact e1, e2, e4, fun h5 => ?_, fun h5 => ?_⟩ <;> rw [setB_other _ _ _ (by decide)] at h5 <;> first | exact e3 h5 | exact e5 h5), (fun h => by rw [setB_other _ _ _ (by decide)] at h ⊢; exact c5 h)⟩
    · obtain rfl := Option.some.inj ho
      refine g_load_all 72 _ _ _ 72 _ rfl (b_b.below hC b_b.lt) Tryd.underlying72 rfl szR ?_
      exact ⟨hC, keepE (by decide) k0, newE rfl, (fun h => by rw [setB_other _ _ _ (by decide)] at h; rw [setV_other _ _ _ _ (by decide)]; exact k2 h), (fun h => by rw [setB_other _ _ _ (by decide)] at h; rw [setV_other _ _ _ _ (by decide)]; exact k3 h), (fun h => by rw [setB_other _ _ _ (by decide)] at h; obtain ⟨p, e1, e2, e4, e3, e5⟩ := k4 h; refine ⟨p, by rw [setV_other _ _ _ _ (by decide)]; exact e1, e2, e4, fun h5 => ?_, fun h5 => ?_⟩ <;> rw [setB_other _ _ _ (by decide)] at h5 <;> first | exact e3 h5 | exact e5 h5), (fun h => by rw [setB_other _ _ _ (by decide)] at h ⊢; exact c5 h)⟩
    · obtain rfl := Option.some.inj ho
      have d1 := k1 (hall ⟨1, .data⟩ (by simp) rfl)
      refine g_call 34 _ _ [.agg #[.bool sb, bb]] (kf34 _ _) (by show ([v 1] : List Value) = _; rw [d1]) ((less_any _ zb wx ⟨_, _, rfl, rb.below hC⟩ fb).mono ?_)
      rintro e w' ⟨u_, rfl, hp, hb⟩
      exact ⟨_, rfl, hC.trans (hb.mono hC.size), keepE (by decide) k0, keepE (by decide) k1, (fun _ => by rw [setV_self]; exact hp), (fun h => by rw [setB_other _ _ _ (by decide)] at h; rw [setV_other _ _ _ _ (by decide)]; exact (k3 h).below hb), (fun h => by rw [setB_other _ _ _ (by decide)] at h; obtain ⟨p, e1, e2, e4, e3, e5⟩ := k4 h; refine ⟨p, by rw [setV_other _ _ _ _ (by decide)]; exact e1, Nat.lt_of_lt_of_le e2 hb.size, e4, fun h5 => ?_, fun h5 => ?_⟩ <;> rw [setB_other _ _ _ (by decide)] at h5 <;> first | exact (e3 h5).below hb e2 | exact (e5 h5).below hb), (fun h => by rw [setB_other _ _ _ (by decide)] at h ⊢; exact c5 h)⟩
    · obtain rfl := Option.some.inj ho
      have d0 := k0 (hall ⟨0, .data⟩ (by simp) rfl)
      have d2 := k2 (hall ⟨2, .data⟩ (by simp) rfl)
      refine g_call 33 _ _ [.agg #[.bool sa, ba], v 2] (kf33 _ _) (by show ([v 0, v 2] : List Value) = _; rw [d0]) ((radd_any _ _ za (-zb) z wx ⟨_, _, rfl, ra.below hC⟩ d2 fa fb2 hz).mono ?_)
      rintro e w' ⟨u_, rfl, hp, hb⟩
      exact ⟨_, rfl, hC.trans (hb.mono hC.size), keepE (by decide) k0, keepE (by decide) k1, (fun h => by rw [setB_other _ _ _ (by decide)] at h; rw [setV_other _ _ _ _ (by decide)]; exact (k2 h).below hb), (fun _ => by rw [setV_self]; exact hp), (fun h => by rw [setB_other _ _ _ (by decide)] at h; obtain ⟨p, e1, e2, e4, e3, e5⟩ := k4 h; refine ⟨p, by rw [setV_other _ _ _ _ (by decide)]; exact e1, Nat.lt_of_lt_of_le e2 hb.size, e4, fun h5 => ?_, fun h5 => ?_⟩ <;> rw [setB_other _ _ _ (by decide)] at h5 <;> first | exact (e3 h5).below hb e2 | exact (e5 h5).below hb), (fun h => by rw [setB_other _ _ _ (by decide)] at h ⊢; exact c5 h)⟩
    · obtain rfl := Option.some.inj ho
      refine g_alloc 72 _ zeroR (fun w' h1 h2 => ?_)
      have hb := h1.toBelow
      exact ⟨hC.trans (hb.mono hC.size), keepE (by decide) k0, keepE (by decide) k1, (fun h => by rw [setB_other _ _ _ (by decide)] at h; rw [setV_other _ _ _ _ (by decide)]; exact (k2 h).below hb), (fun h => by rw [setB_other _ _ _ (by decide)] at h; rw [setV_other _ _ _ _ (by decide)]; exact (k3 h).below hb), (fun _ => ⟨wx.heap.size, setV_self _ _ _, h2.lt, hC.size, fun _ => h2, fun h => by rw [setB_other _ _ _ (by decide)] at h; have := c5 h; rw [hti] at this; cases this⟩), (fun _ => setB_self _ _)⟩
    · obtain rfl := Option.some.inj ho
      have ht4 := hall ⟨4, .data⟩ (by simp) rfl
      obtain ⟨p, e1, e2, e4, e3, e5⟩ := k4 ht4
      obtain ⟨s8, b8, e8, r8⟩ := k3 (hall ⟨3, .data⟩ (by simp) rfl)
      refine g_store_all 72 _ _ p [.bool s8, b8] _ 72 (show v 4 = _ from e1) (show v 3 = _ from e8) (e3 hti) szR rfl (one_rc _ _ r8.sl) (fun w' h1 h2 => ?_)
      exact ⟨h1.below hC e4, keepE (by decide) k0, keepE (by decide) k1, (fun h => by rw [setB_other _ _ _ (by decide)] at h; rw [setV_other _ _ _ _ (by decide)]; exact (k2 h).turn h1 (e3 hti) (by decide)), (fun h => by rw [setB_other _ _ _ (by decide)] at h; rw [setV_other _ _ _ _ (by decide)]; exact (k3 h).turn h1 (e3 hti) (by decide)), (fun h => ⟨p, by rw [setV_other _ _ _ _ (by decide)]; exact e1, Nat.lt_of_lt_of_le e2 h1.size, e4, (fun h => by have := setB_self t 5; rw [h] at this; cases this), fun _ => ⟨_, _, h2, r8.turn h1 (e3 hti) (by decide)⟩⟩), (fun _ => by rw [setB_other _ _ _ (by decide)]; exact ht4)⟩
    · simp at ho
  · simp only [full, Act.put, List.setIfInBounds_toArray, List.set_cons_succ, List.set_cons_zero, Nat.zero_add, Nat.reduceAdd]
    intro t v wz hS ht
    obtain ⟨hC, k0, k1, k2, k3, k4, c5⟩ := hS
    obtain ⟨p, e1, -, -, -, e5⟩ := k4 (ht 4 (by decide))
    obtain ⟨s8, b8, bk, rf⟩ := e5 (ht 5 (by decide))
    rw [e1]
    clear ht k0 k1 k2 k3 k4 c5 e1 e5
    generalize v 0 = y0
    generalize v 1 = y1
    generalize v 2 = y2
    generalize v 3 = y3
    replace hB := hB.trans (hC.mono hB.size)
    have hs := rf.sign
    obtain ⟨l, rd, hc, hv⟩ := rf.list
    obtain ⟨g, cap, sp, rfl, -⟩ := id rd
    have c0 := bk.cell 0 _ rfl
    have c1 := bk.cell 1 _ rfl
    have hR' := hR.out
    clear hC ra rb b_a b_b rd
    by_cases hneg : z < 0
    · rw [decide_eq_true hneg] at hs
      subst hs
      obtain rfl : R = -1 := by rw [← hR', if_pos hneg]
      clear hR' hR
      go_wp2_with fail
      go_ret
      exact ⟨rfl, hB⟩
    · rw [decide_eq_false hneg] at hs
      subst hs
      by_cases h0 : z = 0
      · have hl : l.length = 0 := by rw [hc.zero (by omega)]; rfl
        obtain rfl : R = 0 := by rw [← hR', if_neg hneg, if_pos h0]
        rw [hl] at c1
        clear hR' hR hc hv h0 hneg bk rf
        go_wp2_with fail
        go_ret
        exact ⟨rfl, hB⟩
      · have hl : ¬ l.length = 0 := by intro h; rw [List.eq_nil_of_length_eq_zero h, val_nil] at hv; omega
        obtain rfl : R = 1 := by rw [← hR', if_neg hneg, if_neg h0]
        obtain ⟨n, hn⟩ : ∃ n, l.length = n + 1 := ⟨l.length - 1, by omega⟩
        rw [hn] at c1
        have hlt : ¬ ((n + 1 : Nat) : Int) < 1 := by omega
        have hlt2 : ¬ (n + 1 : Nat) < 1 := by omega
        clear hR' hR hc hv h0 hneg bk rf hl
        go_wp2_with fail
        all_goals go_ret
        all_goals refine ⟨?_, hB⟩
        all_goals first | rfl | (obtain rfl : n = 0 := by omega); rfl

theorem rcmp_any (u v : Value) (y z R : Int) (w : World) (hu : RN w u y) (hv : RN w v z) (fy : Few y 200) (fz : Few z 200) (hR : Hid (cmpI y z = R)) :
    Calls Tryd.prog 42 #[u, v] w fun e w' => e = .returned (.int .i64 R) ∧ Below w.heap.size w w' := by
  obtain ⟨sa, ba, rfl, ra⟩ := hu
  obtain ⟨sb, bb, rfl, rb⟩ := hv
  refine rcmp_l sa sb ba bb y z (y + -z) R w ra rb fy fz (by unfold Few at *; omega) rfl ?_
  show _ = _
  rw [← hR.out, cmpI]
  repeat' split
  all_goals omega


end Go.Proofs.YtpenicjlpiechaaDoor.Wd
