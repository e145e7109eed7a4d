/- What the reference's Near answers; nothing that was there is changed. -/
import Derived.Test.YtpeiboehdjhimaaRf3
namespace Go.Proofs.Ytpeiboehdjhimaa
open Go Go.RowKit
set_option linter.unusedVariables false
section
variable {a : Act} {w : World} {dst : Option Tmp} {ty yt : TypeId} {pos : String} {aft : Array Edge} {gd : Option (Nat × Bool)} {K : Value → World → Prop}
theorem g_rem2 (x : Operand) (q r : Int) (hx : a.eval x = .int .u64 q) (hr : q.tmod 2 = r) (hk : K (.int .u64 r) w) : gives Try.prog ⟨dst, .binOp .rem 22 x (.const (.int .u64 2)) 22, ty, pos, aft, gd⟩ a w K := by
  refine g_val _ w ?_ hk
  have e : a.eval (.const (.int .u64 2)) = .int .u64 2 := rfl
  simp only [execOp, hx, e]
  go_simp
theorem g_conv (x : Operand) (q r : Int) (hx : a.eval x = .int .u64 q) (hr : IntKind.i64.wrap q = r) (hk : K (.int .i64 r) w) : gives Try.prog ⟨dst, .convert 22 2 x, ty, pos, aft, gd⟩ a w K := by
  refine g_val _ w ?_ hk
  simp only [execOp, hx]
  go_simp
end

set_option maxRecDepth 10000 in
set_option maxHeartbeats 4000000 in
theorem rnear_le (sa : Bool) (ba : Value) (s z L AA HH RR CC TT EE BB KK : Int) (w : World) (ra : RF w sa ba z) (hL : Hid (z % 18446744073709551616 = L)) (hA1 : IntKind.u64.wrap (s - L) = AA) (hH1 : AA / 2 = HH) (hH2 : IntKind.i64.wrap HH = HH) (jH : In64 HH) (jR : In64 RR) (hR1 : Hid (AA.tmod 2 = RR)) (hR2 : Hid (IntKind.i64.wrap RR = RR)) (hC2 : Hid (HH + HH = CC)) (hA2 : Hid (CC + RR = AA)) (hT : Hid (z + AA = TT)) (hE : Hid (TT + -18446744073709551616 = EE)) (hA3 : Hid (TT + -z = AA)) (hB2 : Hid (z + -EE = BB)) (hK : Hid (cmpI AA BB = KK)) (hle : KK ≤ 0)
    (fz : Few z 200) (fz2 : Few (-z) 200) (fH : Few HH 200) (fC : Few CC 200) (fR : Few RR 200) (fA : Few AA 200) (fT : Few TT 200) (fE : Few 18446744073709551616 200) (fE2 : Few (-18446744073709551616) 200) (fEE : Few EE 200) (fEE2 : Few (-EE) 200) (fB : Few BB 200) :
    Calls Try.prog 13 #[.int .u64 s, .agg #[.bool sa, ba]] w fun e w' => ∃ u, e = .returned u ∧ RN w' u TT ∧ Below w.heap.size w w' := by
  go_enter Try.func13, Try.ntmps13
  go_wp2_with (first
    | ((with_reducible refine at_boxD 3 32 ?_); refine L_box 32 _ ([.bool sa, ba]) rfl ?_; intro w1 t_ b_m; have l_m : w.heap.size ≤ w.heap.size := Nat.le_refl _; replace ra := ra.below t_.toBelow; have hB : Below w.heap.size w w1 := t_.below (Below.refl _ _) (Nat.le_refl _); clear t_)
    | ((with_reducible refine at_allocD 4 32 ?_); refine L_alloc 32 ([.bool false, .slice none 0 0]) zeroR ?_; intro w2 t_ b_r; have l_r : w.heap.size ≤ w1.heap.size := hB.size; have o_r := b_m.lt; replace ra := ra.below t_.toBelow; replace b_m := t_.blk b_m (by omega); replace hB := t_.below hB l_r; clear t_)
    | ((with_reducible refine at_loadD 12 32 ?_); refine L_load_all 32 _ (w.heap.size) ([.bool sa, ba]) 32 _ rfl b_m Try.underlying32 rfl (szR) ?_))
  refine (rfold_any _ z L w2 ⟨_, _, rfl, ra⟩ fz hL).mono ?_
  rintro e w3 ⟨rfl, t_⟩
  replace ra := ra.below t_
  replace b_m := b_m.below t_ b_m.lt
  replace b_r := b_r.below t_ b_r.lt
  replace hB := hB.trans (t_.mono hB.size)
  clear t_
  go_wp2_with fail
  refine (rof_any HH w3 jH).mono ?_
  rintro e w4 ⟨_, rfl, ⟨s_n18, v_n18, rfl, r_n18⟩, t_⟩
  replace ra := ra.below t_
  replace b_m := b_m.below t_ b_m.lt
  replace b_r := b_r.below t_ b_r.lt
  replace hB := hB.trans (t_.mono hB.size)
  clear t_
  go_wp2_with (first
    | ((with_reducible refine at_allocD 6 32 ?_); refine L_alloc 32 ([.bool false, .slice none 0 0]) zeroR ?_; intro w5 t_ b_x; have l_x : w.heap.size ≤ w4.heap.size := hB.size; have o_x := b_r.lt; replace ra := ra.below t_.toBelow; replace r_n18 := r_n18.below t_.toBelow; replace b_m := t_.blk b_m (by omega); replace b_r := t_.blk b_r (by omega); replace hB := t_.below hB l_x; clear t_)
    | ((with_reducible refine at_storeX 6 32 ?_); refine L_store_all 32 _ _ (w4.heap.size) ([.bool s_n18, v_n18]) _ 32 rfl rfl b_x (szR) (rfl) (one_rc _ _ r_n18.sl) ?_; have b0_x := b_x; clear b_x; intro w6 t_ b_x; replace ra := ra.turn t_ b0_x (by decide); replace r_n18 := r_n18.turn t_ b0_x (by decide); replace b_m := t_.blk b_m (by omega); replace b_r := t_.blk b_r (by omega); replace hB := t_.below hB l_x; clear t_ b0_x)
    | ((with_reducible refine stop_region 3 ?_); intro X1 hX1))
  refine hX1.out ?_
  clear hX1
  refine wp_region_inv (by kernel_rfl) (by kernel_rfl) (fun t v wx => Below w6.heap.size w6 wx ∧ (t 0 = true → v 0 = .agg #[.bool sa, ba]) ∧ (t 1 = true → v 1 = .agg #[.bool s_n18, v_n18]) ∧ (t 2 = true → v 2 = .agg #[.bool s_n18, v_n18]) ∧ (t 3 = true → RN wx (v 3) (CC)) ∧ (t 4 = true → v 4 = .int .u64 (AA)) ∧ (t 5 = true → v 5 = .int .u64 (RR)) ∧ (t 6 = true → v 6 = .int .i64 (RR)) ∧ (t 7 = true → RN wx (v 7) (RR)) ∧ (t 8 = true → RN wx (v 8) (AA)) ∧ (t 9 = true → RN wx (v 9) (TT)) ∧ (t 10 = true → ∃ p, v 10 = .pointer (some ⟨p, 0, none⟩) ∧ p < wx.heap.size ∧ w6.heap.size ≤ p ∧ (t 11 = false → Blk wx p [.bool false, .slice none 0 0] 32) ∧ (t 11 = true → RA wx p (TT))) ∧ (t 11 = true → t 10 = true)) ?_ ?_ ?_
  · exact ⟨(Below.refl _ _).drew, (fun h => by cases h), (fun h => by cases h), (fun h => by cases h), (fun h => by cases h), (fun h => by cases h), (fun h => by cases h), (fun h => by cases h), (fun h => by cases h), (fun h => by cases h), (fun h => by cases h), (fun h => by cases h), (fun h => by cases h)⟩
  · simp only [full, Act.put, List.setIfInBounds_toArray, List.set_cons_succ, List.set_cons_zero, Nat.zero_add, Nat.reduceAdd]
    intro i o ho t v wx hS hti hall
    obtain ⟨hC, k0, k1, k2, k3, k4, k5, k6, k7, k8, k9, k10, k11⟩ := hS
    rcases i with _ | _ | _ | _ | _ | _ | _ | _ | _ | _ | _ | _ | i
    · obtain rfl := Option.some.inj ho
      refine g_load_all 32 _ (w.heap.size) ([.bool sa, ba]) 32 _ rfl (b_m.below hC b_m.lt) Try.underlying32 rfl (szR) ?_
      exact ⟨hC, newE rfl, keepE (by decide) k1, keepE (by decide) k2, (fun h => by rw [setB_other _ _ _ (by decide)] at h; rw [setV_other _ _ _ _ (by decide)]; exact k3 h), keepE (by decide) k4, keepE (by decide) k5, keepE (by decide) k6, (fun h => by rw [setB_other _ _ _ (by decide)] at h; rw [setV_other _ _ _ _ (by decide)]; exact k7 h), (fun h => by rw [setB_other _ _ _ (by decide)] at h; rw [setV_other _ _ _ _ (by decide)]; exact k8 h), (fun h => by rw [setB_other _ _ _ (by decide)] at h; rw [setV_other _ _ _ _ (by decide)]; exact k9 h), (fun h => by rw [setB_other _ _ _ (by decide)] at h; obtain ⟨p, e1, e2, e4, e3, e5⟩ := k10 h; refine ⟨p, by rw [setV_other _ _ _ _ (by decide)]; exact e1, e2, e4, fun h5 => ?_, fun h5 => ?_⟩ <;> rw [setB_other _ _ _ (by decide)] at h5 <;> first | exact e3 h5 | exact e5 h5), (fun h => by rw [setB_other _ _ _ (by decide)] at h ⊢; exact k11 h)⟩
    · obtain rfl := Option.some.inj ho
      refine g_load_all 32 _ (w4.heap.size) ([.bool s_n18, v_n18]) 32 _ rfl (b_x.below hC b_x.lt) Try.underlying32 rfl (szR) ?_
      exact ⟨hC, keepE (by decide) k0, newE rfl, keepE (by decide) k2, (fun h => by rw [setB_other _ _ _ (by decide)] at h; rw [setV_other _ _ _ _ (by decide)]; exact k3 h), keepE (by decide) k4, keepE (by decide) k5, keepE (by decide) k6, (fun h => by rw [setB_other _ _ _ (by decide)] at h; rw [setV_other _ _ _ _ (by decide)]; exact k7 h), (fun h => by rw [setB_other _ _ _ (by decide)] at h; rw [setV_other _ _ _ _ (by decide)]; exact k8 h), (fun h => by rw [setB_other _ _ _ (by decide)] at h; rw [setV_other _ _ _ _ (by decide)]; exact k9 h), (fun h => by rw [setB_other _ _ _ (by decide)] at h; obtain ⟨p, e1, e2, e4, e3, e5⟩ := k10 h; refine ⟨p, by rw [setV_other _ _ _ _ (by decide)]; exact e1, e2, e4, fun h5 => ?_, fun h5 => ?_⟩ <;> rw [setB_other _ _ _ (by decide)] at h5 <;> first | exact e3 h5 | exact e5 h5), (fun h => by rw [setB_other _ _ _ (by decide)] at h ⊢; exact k11 h)⟩
    · obtain rfl := Option.some.inj ho
      refine g_load_all 32 _ (w4.heap.size) ([.bool s_n18, v_n18]) 32 _ rfl (b_x.below hC b_x.lt) Try.underlying32 rfl (szR) ?_
      exact ⟨hC, keepE (by decide) k0, keepE (by decide) k1, newE rfl, (fun h => by rw [setB_other _ _ _ (by decide)] at h; rw [setV_other _ _ _ _ (by decide)]; exact k3 h), keepE (by decide) k4, keepE (by decide) k5, keepE (by decide) k6, (fun h => by rw [setB_other _ _ _ (by decide)] at h; rw [setV_other _ _ _ _ (by decide)]; exact k7 h), (fun h => by rw [setB_other _ _ _ (by decide)] at h; rw [setV_other _ _ _ _ (by decide)]; exact k8 h), (fun h => by rw [setB_other _ _ _ (by decide)] at h; rw [setV_other _ _ _ _ (by decide)]; exact k9 h), (fun h => by rw [setB_other _ _ _ (by decide)] at h; obtain ⟨p, e1, e2, e4, e3, e5⟩ := k10 h; refine ⟨p, by rw [setV_other _ _ _ _ (by decide)]; exact e1, e2, e4, fun h5 => ?_, fun h5 => ?_⟩ <;> rw [setB_other _ _ _ (by decide)] at h5 <;> first | exact e3 h5 | exact e5 h5), (fun h => by rw [setB_other _ _ _ (by decide)] at h ⊢; exact k11 h)⟩
    · obtain rfl := Option.some.inj ho
      have d1 := k1 (hall ⟨1, .data⟩ (by simp) rfl)
      have d2 := k2 (hall ⟨2, .data⟩ (by simp) rfl)
      refine g_call 37 _ _ [.agg #[.bool s_n18, v_n18], .agg #[.bool s_n18, v_n18]] (kf37 _ _) (by show ([v 1, v 2] : List Value) = _; rw [d1, d2]; (try rfl)) ((radd_any _ _ HH HH CC wx ⟨_, _, rfl, r_n18.below hC⟩ ⟨_, _, rfl, r_n18.below hC⟩ fH fH hC2).mono ?_)
      rintro e w' ⟨u_, rfl, hp, hb⟩
      exact ⟨_, rfl, hC.trans (hb.mono hC.size), keepE (by decide) k0, keepE (by decide) k1, keepE (by decide) k2, (fun _ => by rw [setV_self]; exact hp), keepE (by decide) k4, keepE (by decide) k5, keepE (by decide) k6, (fun h => by rw [setB_other _ _ _ (by decide)] at h; rw [setV_other _ _ _ _ (by decide)]; exact (k7 h).below hb), (fun h => by rw [setB_other _ _ _ (by decide)] at h; rw [setV_other _ _ _ _ (by decide)]; exact (k8 h).below hb), (fun h => by rw [setB_other _ _ _ (by decide)] at h; rw [setV_other _ _ _ _ (by decide)]; exact (k9 h).below hb), (fun h => by rw [setB_other _ _ _ (by decide)] at h; obtain ⟨p, e1, e2, e4, e3, e5⟩ := k10 h; refine ⟨p, by rw [setV_other _ _ _ _ (by decide)]; exact e1, Nat.lt_of_lt_of_le e2 hb.size, e4, fun h5 => ?_, fun h5 => ?_⟩ <;> rw [setB_other _ _ _ (by decide)] at h5 <;> first | exact (e3 h5).below hb e2 | exact (e5 h5).below hb), (fun h => by rw [setB_other _ _ _ (by decide)] at h ⊢; exact k11 h)⟩
    · obtain rfl := Option.some.inj ho
      refine g_move _ _ rfl ?_
      exact ⟨hC, keepE (by decide) k0, keepE (by decide) k1, keepE (by decide) k2, (fun h => by rw [setB_other _ _ _ (by decide)] at h; rw [setV_other _ _ _ _ (by decide)]; exact k3 h), newE rfl, keepE (by decide) k5, keepE (by decide) k6, (fun h => by rw [setB_other _ _ _ (by decide)] at h; rw [setV_other _ _ _ _ (by decide)]; exact k7 h), (fun h => by rw [setB_other _ _ _ (by decide)] at h; rw [setV_other _ _ _ _ (by decide)]; exact k8 h), (fun h => by rw [setB_other _ _ _ (by decide)] at h; rw [setV_other _ _ _ _ (by decide)]; exact k9 h), (fun h => by rw [setB_other _ _ _ (by decide)] at h; obtain ⟨p, e1, e2, e4, e3, e5⟩ := k10 h; refine ⟨p, by rw [setV_other _ _ _ _ (by decide)]; exact e1, e2, e4, fun h5 => ?_, fun h5 => ?_⟩ <;> rw [setB_other _ _ _ (by decide)] at h5 <;> first | exact e3 h5 | exact e5 h5), (fun h => by rw [setB_other _ _ _ (by decide)] at h ⊢; exact k11 h)⟩
    · obtain rfl := Option.some.inj ho
      have d4 := k4 (hall ⟨4, .data⟩ (by simp) rfl)
      refine g_rem2 _ _ _ (show v 4 = _ from d4) hR1.out ?_
      exact ⟨hC, keepE (by decide) k0, keepE (by decide) k1, keepE (by decide) k2, (fun h => by rw [setB_other _ _ _ (by decide)] at h; rw [setV_other _ _ _ _ (by decide)]; exact k3 h), keepE (by decide) k4, newE rfl, keepE (by decide) k6, (fun h => by rw [setB_other _ _ _ (by decide)] at h; rw [setV_other _ _ _ _ (by decide)]; exact k7 h), (fun h => by rw [setB_other _ _ _ (by decide)] at h; rw [setV_other _ _ _ _ (by decide)]; exact k8 h), (fun h => by rw [setB_other _ _ _ (by decide)] at h; rw [setV_other _ _ _ _ (by decide)]; exact k9 h), (fun h => by rw [setB_other _ _ _ (by decide)] at h; obtain ⟨p, e1, e2, e4, e3, e5⟩ := k10 h; refine ⟨p, by rw [setV_other _ _ _ _ (by decide)]; exact e1, e2, e4, fun h5 => ?_, fun h5 => ?_⟩ <;> rw [setB_other _ _ _ (by decide)] at h5 <;> first | exact e3 h5 | exact e5 h5), (fun h => by rw [setB_other _ _ _ (by decide)] at h ⊢; exact k11 h)⟩
    · obtain rfl := Option.some.inj ho
      have d5 := k5 (hall ⟨5, .data⟩ (by simp) rfl)
      refine g_conv _ _ _ (show v 5 = _ from d5) hR2.out ?_
      exact ⟨hC, keepE (by decide) k0, keepE (by decide) k1, keepE (by decide) k2, (fun h => by rw [setB_other _ _ _ (by decide)] at h; rw [setV_other _ _ _ _ (by decide)]; exact k3 h), keepE (by decide) k4, keepE (by decide) k5, newE rfl, (fun h => by rw [setB_other _ _ _ (by decide)] at h; rw [setV_other _ _ _ _ (by decide)]; exact k7 h), (fun h => by rw [setB_other _ _ _ (by decide)] at h; rw [setV_other _ _ _ _ (by decide)]; exact k8 h), (fun h => by rw [setB_other _ _ _ (by decide)] at h; rw [setV_other _ _ _ _ (by decide)]; exact k9 h), (fun h => by rw [setB_other _ _ _ (by decide)] at h; obtain ⟨p, e1, e2, e4, e3, e5⟩ := k10 h; refine ⟨p, by rw [setV_other _ _ _ _ (by decide)]; exact e1, e2, e4, fun h5 => ?_, fun h5 => ?_⟩ <;> rw [setB_other _ _ _ (by decide)] at h5 <;> first | exact e3 h5 | exact e5 h5), (fun h => by rw [setB_other _ _ _ (by decide)] at h ⊢; exact k11 h)⟩
    · obtain rfl := Option.some.inj ho
      have d6 := k6 (hall ⟨6, .data⟩ (by simp) rfl)
      refine g_call 36 _ _ [.int .i64 (RR)] (kf36 _ _) (by show ([v 6] : List Value) = _; rw [d6]; (try rfl)) ((rof_any RR wx jR).mono ?_)
      rintro e w' ⟨u_, rfl, hp, hb⟩
      exact ⟨_, rfl, hC.trans (hb.mono hC.size), keepE (by decide) k0, keepE (by decide) k1, keepE (by decide) k2, (fun h => by rw [setB_other _ _ _ (by decide)] at h; rw [setV_other _ _ _ _ (by decide)]; exact (k3 h).below hb), keepE (by decide) k4, keepE (by decide) k5, keepE (by decide) k6, (fun _ => by rw [setV_self]; exact hp), (fun h => by rw [setB_other _ _ _ (by decide)] at h; rw [setV_other _ _ _ _ (by decide)]; exact (k8 h).below hb), (fun h => by rw [setB_other _ _ _ (by decide)] at h; rw [setV_other _ _ _ _ (by decide)]; exact (k9 h).below hb), (fun h => by rw [setB_other _ _ _ (by decide)] at h; obtain ⟨p, e1, e2, e4, e3, e5⟩ := k10 h; refine ⟨p, by rw [setV_other _ _ _ _ (by decide)]; exact e1, Nat.lt_of_lt_of_le e2 hb.size, e4, fun h5 => ?_, fun h5 => ?_⟩ <;> rw [setB_other _ _ _ (by decide)] at h5 <;> first | exact (e3 h5).below hb e2 | exact (e5 h5).below hb), (fun h => by rw [setB_other _ _ _ (by decide)] at h ⊢; exact k11 h)⟩
    · obtain rfl := Option.some.inj ho
      have d3 := k3 (hall ⟨3, .data⟩ (by simp) rfl)
      have d7 := k7 (hall ⟨7, .data⟩ (by simp) rfl)
      refine g_call 37 _ _ [v 3, v 7] (kf37 _ _) (rfl) ((radd_any _ _ CC RR AA wx d3 d7 fC fR hA2).mono ?_)
      rintro e w' ⟨u_, rfl, hp, hb⟩
      exact ⟨_, rfl, hC.trans (hb.mono hC.size), keepE (by decide) k0, keepE (by decide) k1, keepE (by decide) k2, (fun h => by rw [setB_other _ _ _ (by decide)] at h; rw [setV_other _ _ _ _ (by decide)]; exact (k3 h).below hb), keepE (by decide) k4, keepE (by decide) k5, keepE (by decide) k6, (fun h => by rw [setB_other _ _ _ (by decide)] at h; rw [setV_other _ _ _ _ (by decide)]; exact (k7 h).below hb), (fun _ => by rw [setV_self]; exact hp), (fun h => by rw [setB_other _ _ _ (by decide)] at h; rw [setV_other _ _ _ _ (by decide)]; exact (k9 h).below hb), (fun h => by rw [setB_other _ _ _ (by decide)] at h; obtain ⟨p, e1, e2, e4, e3, e5⟩ := k10 h; refine ⟨p, by rw [setV_other _ _ _ _ (by decide)]; exact e1, Nat.lt_of_lt_of_le e2 hb.size, e4, fun h5 => ?_, fun h5 => ?_⟩ <;> rw [setB_other _ _ _ (by decide)] at h5 <;> first | exact (e3 h5).below hb e2 | exact (e5 h5).below hb), (fun h => by rw [setB_other _ _ _ (by decide)] at h ⊢; exact k11 h)⟩
    · obtain rfl := Option.some.inj ho
      have d0 := k0 (hall ⟨0, .data⟩ (by simp) rfl)
      have d8 := k8 (hall ⟨8, .data⟩ (by simp) rfl)
      refine g_call 37 _ _ [.agg #[.bool sa, ba], v 8] (kf37 _ _) (by show ([v 0, v 8] : List Value) = _; rw [d0]; (try rfl)) ((radd_any _ _ z AA TT wx ⟨_, _, rfl, ra.below hC⟩ d8 fz fA hT).mono ?_)
      rintro e w' ⟨u_, rfl, hp, hb⟩
      exact ⟨_, rfl, hC.trans (hb.mono hC.size), keepE (by decide) k0, keepE (by decide) k1, keepE (by decide) k2, (fun h => by rw [setB_other _ _ _ (by decide)] at h; rw [setV_other _ _ _ _ (by decide)]; exact (k3 h).below hb), keepE (by decide) k4, keepE (by decide) k5, keepE (by decide) k6, (fun h => by rw [setB_other _ _ _ (by decide)] at h; rw [setV_other _ _ _ _ (by decide)]; exact (k7 h).below hb), (fun h => by rw [setB_other _ _ _ (by decide)] at h; rw [setV_other _ _ _ _ (by decide)]; exact (k8 h).below hb), (fun _ => by rw [setV_self]; exact hp), (fun h => by rw [setB_other _ _ _ (by decide)] at h; obtain ⟨p, e1, e2, e4, e3, e5⟩ := k10 h; refine ⟨p, by rw [setV_other _ _ _ _ (by decide)]; exact e1, Nat.lt_of_lt_of_le e2 hb.size, e4, fun h5 => ?_, fun h5 => ?_⟩ <;> rw [setB_other _ _ _ (by decide)] at h5 <;> first | exact (e3 h5).below hb e2 | exact (e5 h5).below hb), (fun h => by rw [setB_other _ _ _ (by decide)] at h ⊢; exact k11 h)⟩
    · obtain rfl := Option.some.inj ho
      refine g_alloc 32 _ zeroR (fun w' h1 h2 => ?_)
      have hb := h1.toBelow
      exact ⟨hC.trans (hb.mono hC.size), keepE (by decide) k0, keepE (by decide) k1, keepE (by decide) k2, (fun h => by rw [setB_other _ _ _ (by decide)] at h; rw [setV_other _ _ _ _ (by decide)]; exact (k3 h).below hb), keepE (by decide) k4, keepE (by decide) k5, keepE (by decide) k6, (fun h => by rw [setB_other _ _ _ (by decide)] at h; rw [setV_other _ _ _ _ (by decide)]; exact (k7 h).below hb), (fun h => by rw [setB_other _ _ _ (by decide)] at h; rw [setV_other _ _ _ _ (by decide)]; exact (k8 h).below hb), (fun h => by rw [setB_other _ _ _ (by decide)] at h; rw [setV_other _ _ _ _ (by decide)]; exact (k9 h).below hb), (fun _ => ⟨wx.heap.size, setV_self _ _ _, h2.lt, hC.size, fun _ => h2, fun h => by rw [setB_other _ _ _ (by decide)] at h; have := k11 h; rw [hti] at this; cases this⟩), (fun _ => setB_self _ _)⟩
    · obtain rfl := Option.some.inj ho
      have ht_ := hall ⟨10, .data⟩ (by simp) rfl
      obtain ⟨p, e1, e2, e4, e3, e5⟩ := k10 ht_
      obtain ⟨s8, b8, e8, r8⟩ := k9 (hall ⟨9, .data⟩ (by simp) rfl)
      refine g_store_all 32 _ _ p [.bool s8, b8] _ 32 (show v 10 = _ from e1) (show v 9 = _ from e8) (e3 hti) szR rfl (one_rc _ _ r8.sl) (fun w' h1 h2 => ?_)
      exact ⟨h1.below hC e4, keepE (by decide) k0, keepE (by decide) k1, keepE (by decide) k2, (fun h => by rw [setB_other _ _ _ (by decide)] at h; rw [setV_other _ _ _ _ (by decide)]; exact (k3 h).turn h1 (e3 hti) (by decide)), keepE (by decide) k4, keepE (by decide) k5, keepE (by decide) k6, (fun h => by rw [setB_other _ _ _ (by decide)] at h; rw [setV_other _ _ _ _ (by decide)]; exact (k7 h).turn h1 (e3 hti) (by decide)), (fun h => by rw [setB_other _ _ _ (by decide)] at h; rw [setV_other _ _ _ _ (by decide)]; exact (k8 h).turn h1 (e3 hti) (by decide)), (fun h => by rw [setB_other _ _ _ (by decide)] at h; rw [setV_other _ _ _ _ (by decide)]; exact (k9 h).turn h1 (e3 hti) (by decide)), (fun h => ⟨p, by rw [setV_other _ _ _ _ (by decide)]; exact e1, Nat.lt_of_lt_of_le e2 h1.size, e4, (fun h => by have := setB_self t 11; rw [h] at this; cases this), fun _ => ⟨_, _, h2, r8.turn h1 (e3 hti) (by decide)⟩⟩), (fun _ => by rw [setB_other _ _ _ (by decide)]; exact ht_)⟩
    · simp at ho
  · simp only [full, Act.put, List.setIfInBounds_toArray, List.set_cons_succ, List.set_cons_zero, Nat.zero_add, Nat.reduceAdd]
    intro t v w7 hS ht
    obtain ⟨hC, k0, k1, k2, k3, k4, k5, k6, k7, k8, k9, k10, k11⟩ := hS
    obtain ⟨p_l, e1, -, e4, -, e5⟩ := k10 (ht 10 (by decide))
    obtain ⟨s_l, v_l, b_l, r_l⟩ := e5 (ht 11 (by decide))
    rw [e1]
    have d0 := k0 (ht 0 (by decide)); (try rw [d0])
    clear d0
    have d1 := k1 (ht 1 (by decide)); (try rw [d1])
    clear d1
    have d2 := k2 (ht 2 (by decide)); (try rw [d2])
    clear d2
    have d4 := k4 (ht 4 (by decide)); (try rw [d4])
    clear d4
    have d5 := k5 (ht 5 (by decide)); (try rw [d5])
    clear d5
    have d6 := k6 (ht 6 (by decide)); (try rw [d6])
    clear d6
    clear ht k0 k1 k2 k3 k4 k5 k6 k7 k8 k9 k10 k11 e1 e5
    generalize v 3 = y1_3
    generalize v 7 = y1_7
    generalize v 8 = y1_8
    generalize v 9 = y1_9
    generalize v 11 = y1_11
    have l_l : w.heap.size ≤ p_l := Nat.le_trans hB.size e4
    have o_l : w4.heap.size < p_l := Nat.lt_of_lt_of_le b_x.lt e4
    clear e4
    replace ra := ra.below hC
    replace r_n18 := r_n18.below hC
    replace b_m := b_m.below hC b_m.lt
    replace b_r := b_r.below hC b_r.lt
    replace b_x := b_x.below hC b_x.lt
    replace hB := hB.trans (hC.mono hB.size)
    clear hC
    go_wp2_with (first
      | ((with_reducible refine stop_region 4 ?_); intro X2 hX2))
    refine hX2.out ?_
    clear hX2
    refine wp_region_inv (by kernel_rfl) (by kernel_rfl) (fun t v wx => Below w7.heap.size w7 wx ∧ (t 0 = true → v 0 = .agg #[.bool s_l, v_l]) ∧ (t 1 = true → RN wx (v 1) (18446744073709551616)) ∧ (t 2 = true → RN wx (v 2) (-18446744073709551616)) ∧ (t 3 = true → RN wx (v 3) (EE)) ∧ (t 4 = true → ∃ p, v 4 = .pointer (some ⟨p, 0, none⟩) ∧ p < wx.heap.size ∧ w7.heap.size ≤ p ∧ (t 5 = false → Blk wx p [.bool false, .slice none 0 0] 32) ∧ (t 5 = true → RA wx p (EE))) ∧ (t 5 = true → t 4 = true)) ?_ ?_ ?_
    · exact ⟨(Below.refl _ _).drew, (fun h => by cases h), (fun h => by cases h), (fun h => by cases h), (fun h => by cases h), (fun h => by cases h), (fun h => by cases h)⟩
    · simp only [full, Act.put, List.setIfInBounds_toArray, List.set_cons_succ, List.set_cons_zero, Nat.zero_add, Nat.reduceAdd]
      intro i o ho t v wx hS hti hall
      obtain ⟨hC, k0, k1, k2, k3, k4, k5⟩ := hS
      rcases i with _ | _ | _ | _ | _ | _ | i
      · obtain rfl := Option.some.inj ho
        refine g_load_all 32 _ (p_l) ([.bool s_l, v_l]) 32 _ rfl (b_l.below hC b_l.lt) Try.underlying32 rfl (szR) ?_
        exact ⟨hC, newE rfl, (fun h => by rw [setB_other _ _ _ (by decide)] at h; rw [setV_other _ _ _ _ (by decide)]; exact k1 h), (fun h => by rw [setB_other _ _ _ (by decide)] at h; rw [setV_other _ _ _ _ (by decide)]; exact k2 h), (fun h => by rw [setB_other _ _ _ (by decide)] at h; rw [setV_other _ _ _ _ (by decide)]; exact k3 h), (fun h => by rw [setB_other _ _ _ (by decide)] at h; obtain ⟨p, e1, e2, e4, e3, e5⟩ := k4 h; refine ⟨p, by rw [setV_other _ _ _ _ (by decide)]; exact e1, e2, e4, fun h5 => ?_, fun h5 => ?_⟩ <;> rw [setB_other _ _ _ (by decide)] at h5 <;> first | exact e3 h5 | exact e5 h5), (fun h => by rw [setB_other _ _ _ (by decide)] at h ⊢; exact k5 h)⟩
      · obtain rfl := Option.some.inj ho
        refine g_call 39 _ _ [] (kf39 _ _) (rfl) ((era_any wx).mono ?_)
        rintro e w' ⟨u_, rfl, hp, hb⟩
        exact ⟨_, rfl, hC.trans (hb.mono hC.size), keepE (by decide) k0, (fun _ => by rw [setV_self]; exact hp), (fun h => by rw [setB_other _ _ _ (by decide)] at h; rw [setV_other _ _ _ _ (by decide)]; exact (k2 h).below hb), (fun h => by rw [setB_other _ _ _ (by decide)] at h; rw [setV_other _ _ _ _ (by decide)]; exact (k3 h).below hb), (fun h => by rw [setB_other _ _ _ (by decide)] at h; obtain ⟨p, e1, e2, e4, e3, e5⟩ := k4 h; refine ⟨p, by rw [setV_other _ _ _ _ (by decide)]; exact e1, Nat.lt_of_lt_of_le e2 hb.size, e4, fun h5 => ?_, fun h5 => ?_⟩ <;> rw [setB_other _ _ _ (by decide)] at h5 <;> first | exact (e3 h5).below hb e2 | exact (e5 h5).below hb), (fun h => by rw [setB_other _ _ _ (by decide)] at h ⊢; exact k5 h)⟩
      · obtain rfl := Option.some.inj ho
        have d1 := k1 (hall ⟨1, .data⟩ (by simp) rfl)
        refine g_call 38 _ _ [v 1] (kf38 _ _) (rfl) ((less_any _ 18446744073709551616 wx d1 fE).mono ?_)
        rintro e w' ⟨u_, rfl, hp, hb⟩
        exact ⟨_, rfl, hC.trans (hb.mono hC.size), keepE (by decide) k0, (fun h => by rw [setB_other _ _ _ (by decide)] at h; rw [setV_other _ _ _ _ (by decide)]; exact (k1 h).below hb), (fun _ => by rw [setV_self]; exact hp), (fun h => by rw [setB_other _ _ _ (by decide)] at h; rw [setV_other _ _ _ _ (by decide)]; exact (k3 h).below hb), (fun h => by rw [setB_other _ _ _ (by decide)] at h; obtain ⟨p, e1, e2, e4, e3, e5⟩ := k4 h; refine ⟨p, by rw [setV_other _ _ _ _ (by decide)]; exact e1, Nat.lt_of_lt_of_le e2 hb.size, e4, fun h5 => ?_, fun h5 => ?_⟩ <;> rw [setB_other _ _ _ (by decide)] at h5 <;> first | exact (e3 h5).below hb e2 | exact (e5 h5).below hb), (fun h => by rw [setB_other _ _ _ (by decide)] at h ⊢; exact k5 h)⟩
      · obtain rfl := Option.some.inj ho
        have d0 := k0 (hall ⟨0, .data⟩ (by simp) rfl)
        have d2 := k2 (hall ⟨2, .data⟩ (by simp) rfl)
        refine g_call 37 _ _ [.agg #[.bool s_l, v_l], v 2] (kf37 _ _) (by show ([v 0, v 2] : List Value) = _; rw [d0]; (try rfl)) ((radd_any _ _ TT (-18446744073709551616) EE wx ⟨_, _, rfl, r_l.below hC⟩ d2 fT fE2 hE).mono ?_)
        rintro e w' ⟨u_, rfl, hp, hb⟩
        exact ⟨_, rfl, hC.trans (hb.mono hC.size), keepE (by decide) k0, (fun h => by rw [setB_other _ _ _ (by decide)] at h; rw [setV_other _ _ _ _ (by decide)]; exact (k1 h).below hb), (fun h => by rw [setB_other _ _ _ (by decide)] at h; rw [setV_other _ _ _ _ (by decide)]; exact (k2 h).below hb), (fun _ => by rw [setV_self]; exact hp), (fun h => by rw [setB_other _ _ _ (by decide)] at h; obtain ⟨p, e1, e2, e4, e3, e5⟩ := k4 h; refine ⟨p, by rw [setV_other _ _ _ _ (by decide)]; exact e1, Nat.lt_of_lt_of_le e2 hb.size, e4, fun h5 => ?_, fun h5 => ?_⟩ <;> rw [setB_other _ _ _ (by decide)] at h5 <;> first | exact (e3 h5).below hb e2 | exact (e5 h5).below hb), (fun h => by rw [setB_other _ _ _ (by decide)] at h ⊢; exact k5 h)⟩
      · obtain rfl := Option.some.inj ho
        refine g_alloc 32 _ zeroR (fun w' h1 h2 => ?_)
        have hb := h1.toBelow
        exact ⟨hC.trans (hb.mono hC.size), keepE (by decide) k0, (fun h => by rw [setB_other _ _ _ (by decide)] at h; rw [setV_other _ _ _ _ (by decide)]; exact (k1 h).below hb), (fun h => by rw [setB_other _ _ _ (by decide)] at h; rw [setV_other _ _ _ _ (by decide)]; exact (k2 h).below hb), (fun h => by rw [setB_other _ _ _ (by decide)] at h; rw [setV_other _ _ _ _ (by decide)]; exact (k3 h).below hb), (fun _ => ⟨wx.heap.size, setV_self _ _ _, h2.lt, hC.size, fun _ => h2, fun h => by rw [setB_other _ _ _ (by decide)] at h; have := k5 h; rw [hti] at this; cases this⟩), (fun _ => setB_self _ _)⟩
      · obtain rfl := Option.some.inj ho
        have ht_ := hall ⟨4, .data⟩ (by simp) rfl
        obtain ⟨p, e1, e2, e4, e3, e5⟩ := k4 ht_
        obtain ⟨s8, b8, e8, r8⟩ := k3 (hall ⟨3, .data⟩ (by simp) rfl)
        refine g_store_all 32 _ _ p [.bool s8, b8] _ 32 (show v 4 = _ from e1) (show v 3 = _ from e8) (e3 hti) szR rfl (one_rc _ _ r8.sl) (fun w' h1 h2 => ?_)
        exact ⟨h1.below hC e4, keepE (by decide) k0, (fun h => by rw [setB_other _ _ _ (by decide)] at h; rw [setV_other _ _ _ _ (by decide)]; exact (k1 h).turn h1 (e3 hti) (by decide)), (fun h => by rw [setB_other _ _ _ (by decide)] at h; rw [setV_other _ _ _ _ (by decide)]; exact (k2 h).turn h1 (e3 hti) (by decide)), (fun h => by rw [setB_other _ _ _ (by decide)] at h; rw [setV_other _ _ _ _ (by decide)]; exact (k3 h).turn h1 (e3 hti) (by decide)), (fun h => ⟨p, by rw [setV_other _ _ _ _ (by decide)]; exact e1, Nat.lt_of_lt_of_le e2 h1.size, e4, (fun h => by have := setB_self t 5; rw [h] at this; cases this), fun _ => ⟨_, _, h2, r8.turn h1 (e3 hti) (by decide)⟩⟩), (fun _ => by rw [setB_other _ _ _ (by decide)]; exact ht_)⟩
      · simp at ho
    · simp only [full, Act.put, List.setIfInBounds_toArray, List.set_cons_succ, List.set_cons_zero, Nat.zero_add, Nat.reduceAdd]
      intro t v w8 hS ht
      obtain ⟨hC, k0, k1, k2, k3, k4, k5⟩ := hS
      obtain ⟨p_c, e1, -, e4, -, e5⟩ := k4 (ht 4 (by decide))
      obtain ⟨s_c, v_c, b_c, r_c⟩ := e5 (ht 5 (by decide))
      rw [e1]
      have d0 := k0 (ht 0 (by decide)); (try rw [d0])
      clear d0
      clear ht k0 k1 k2 k3 k4 k5 e1 e5
      generalize v 1 = y2_1
      generalize v 2 = y2_2
      generalize v 3 = y2_3
      generalize v 5 = y2_5
      have l_c : w.heap.size ≤ p_c := Nat.le_trans hB.size e4
      have o_c : p_l < p_c := Nat.lt_of_lt_of_le b_l.lt e4
      clear e4
      replace ra := ra.below hC
      replace r_n18 := r_n18.below hC
      replace r_l := r_l.below hC
      replace b_m := b_m.below hC b_m.lt
      replace b_r := b_r.below hC b_r.lt
      replace b_x := b_x.below hC b_x.lt
      replace b_l := b_l.below hC b_l.lt
      replace hB := hB.trans (hC.mono hB.size)
      clear hC
      go_wp2_with (first
        | ((with_reducible refine stop_region 5 ?_); intro X3 hX3))
      refine hX3.out ?_
      clear hX3
      refine wp_region_inv (by kernel_rfl) (by kernel_rfl) (fun t v wx => Below w8.heap.size w8 wx ∧ (t 0 = true → v 0 = .agg #[.bool s_l, v_l]) ∧ (t 1 = true → v 1 = .agg #[.bool sa, ba]) ∧ (t 2 = true → RN wx (v 2) (-z)) ∧ (t 3 = true → RN wx (v 3) (AA)) ∧ (t 4 = true → ∃ p, v 4 = .pointer (some ⟨p, 0, none⟩) ∧ p < wx.heap.size ∧ w8.heap.size ≤ p ∧ (t 5 = false → Blk wx p [.bool false, .slice none 0 0] 32) ∧ (t 5 = true → RA wx p (AA))) ∧ (t 5 = true → t 4 = true)) ?_ ?_ ?_
      · exact ⟨(Below.refl _ _).drew, (fun h => by cases h), (fun h => by cases h), (fun h => by cases h), (fun h => by cases h), (fun h => by cases h), (fun h => by cases h)⟩
      · simp only [full, Act.put, List.setIfInBounds_toArray, List.set_cons_succ, List.set_cons_zero, Nat.zero_add, Nat.reduceAdd]
        intro i o ho t v wx hS hti hall
        obtain ⟨hC, k0, k1, k2, k3, k4, k5⟩ := hS
        rcases i with _ | _ | _ | _ | _ | _ | i
        · obtain rfl := Option.some.inj ho
          refine g_load_all 32 _ (p_l) ([.bool s_l, v_l]) 32 _ rfl (b_l.below hC b_l.lt) Try.underlying32 rfl (szR) ?_
          exact ⟨hC, newE rfl, keepE (by decide) k1, (fun h => by rw [setB_other _ _ _ (by decide)] at h; rw [setV_other _ _ _ _ (by decide)]; exact k2 h), (fun h => by rw [setB_other _ _ _ (by decide)] at h; rw [setV_other _ _ _ _ (by decide)]; exact k3 h), (fun h => by rw [setB_other _ _ _ (by decide)] at h; obtain ⟨p, e1, e2, e4, e3, e5⟩ := k4 h; refine ⟨p, by rw [setV_other _ _ _ _ (by decide)]; exact e1, e2, e4, fun h5 => ?_, fun h5 => ?_⟩ <;> rw [setB_other _ _ _ (by decide)] at h5 <;> first | exact e3 h5 | exact e5 h5), (fun h => by rw [setB_other _ _ _ (by decide)] at h ⊢; exact k5 h)⟩
        · obtain rfl := Option.some.inj ho
          refine g_load_all 32 _ (w.heap.size) ([.bool sa, ba]) 32 _ rfl (b_m.below hC b_m.lt) Try.underlying32 rfl (szR) ?_
          exact ⟨hC, keepE (by decide) k0, newE rfl, (fun h => by rw [setB_other _ _ _ (by decide)] at h; rw [setV_other _ _ _ _ (by decide)]; exact k2 h), (fun h => by rw [setB_other _ _ _ (by decide)] at h; rw [setV_other _ _ _ _ (by decide)]; exact k3 h), (fun h => by rw [setB_other _ _ _ (by decide)] at h; obtain ⟨p, e1, e2, e4, e3, e5⟩ := k4 h; refine ⟨p, by rw [setV_other _ _ _ _ (by decide)]; exact e1, e2, e4, fun h5 => ?_, fun h5 => ?_⟩ <;> rw [setB_other _ _ _ (by decide)] at h5 <;> first | exact e3 h5 | exact e5 h5), (fun h => by rw [setB_other _ _ _ (by decide)] at h ⊢; exact k5 h)⟩
        · obtain rfl := Option.some.inj ho
          have d1 := k1 (hall ⟨1, .data⟩ (by simp) rfl)
          refine g_call 38 _ _ [.agg #[.bool sa, ba]] (kf38 _ _) (by show ([v 1] : List Value) = _; rw [d1]; (try rfl)) ((less_any _ z wx ⟨_, _, rfl, ra.below hC⟩ fz).mono ?_)
          rintro e w' ⟨u_, rfl, hp, hb⟩
          exact ⟨_, rfl, hC.trans (hb.mono hC.size), keepE (by decide) k0, keepE (by decide) k1, (fun _ => by rw [setV_self]; exact hp), (fun h => by rw [setB_other _ _ _ (by decide)] at h; rw [setV_other _ _ _ _ (by decide)]; exact (k3 h).below hb), (fun h => by rw [setB_other _ _ _ (by decide)] at h; obtain ⟨p, e1, e2, e4, e3, e5⟩ := k4 h; refine ⟨p, by rw [setV_other _ _ _ _ (by decide)]; exact e1, Nat.lt_of_lt_of_le e2 hb.size, e4, fun h5 => ?_, fun h5 => ?_⟩ <;> rw [setB_other _ _ _ (by decide)] at h5 <;> first | exact (e3 h5).below hb e2 | exact (e5 h5).below hb), (fun h => by rw [setB_other _ _ _ (by decide)] at h ⊢; exact k5 h)⟩
        · obtain rfl := Option.some.inj ho
          have d0 := k0 (hall ⟨0, .data⟩ (by simp) rfl)
          have d2 := k2 (hall ⟨2, .data⟩ (by simp) rfl)
          refine g_call 37 _ _ [.agg #[.bool s_l, v_l], v 2] (kf37 _ _) (by show ([v 0, v 2] : List Value) = _; rw [d0]; (try rfl)) ((radd_any _ _ TT (-z) AA wx ⟨_, _, rfl, r_l.below hC⟩ d2 fT fz2 hA3).mono ?_)
          rintro e w' ⟨u_, rfl, hp, hb⟩
          exact ⟨_, rfl, hC.trans (hb.mono hC.size), keepE (by decide) k0, keepE (by decide) k1, (fun h => by rw [setB_other _ _ _ (by decide)] at h; rw [setV_other _ _ _ _ (by decide)]; exact (k2 h).below hb), (fun _ => by rw [setV_self]; exact hp), (fun h => by rw [setB_other _ _ _ (by decide)] at h; obtain ⟨p, e1, e2, e4, e3, e5⟩ := k4 h; refine ⟨p, by rw [setV_other _ _ _ _ (by decide)]; exact e1, Nat.lt_of_lt_of_le e2 hb.size, e4, fun h5 => ?_, fun h5 => ?_⟩ <;> rw [setB_other _ _ _ (by decide)] at h5 <;> first | exact (e3 h5).below hb e2 | exact (e5 h5).below hb), (fun h => by rw [setB_other _ _ _ (by decide)] at h ⊢; exact k5 h)⟩
        · obtain rfl := Option.some.inj ho
          refine g_alloc 32 _ zeroR (fun w' h1 h2 => ?_)
          have hb := h1.toBelow
          exact ⟨hC.trans (hb.mono hC.size), keepE (by decide) k0, keepE (by decide) k1, (fun h => by rw [setB_other _ _ _ (by decide)] at h; rw [setV_other _ _ _ _ (by decide)]; exact (k2 h).below hb), (fun h => by rw [setB_other _ _ _ (by decide)] at h; rw [setV_other _ _ _ _ (by decide)]; exact (k3 h).below hb), (fun _ => ⟨wx.heap.size, setV_self _ _ _, h2.lt, hC.size, fun _ => h2, fun h => by rw [setB_other _ _ _ (by decide)] at h; have := k5 h; rw [hti] at this; cases this⟩), (fun _ => setB_self _ _)⟩
        · obtain rfl := Option.some.inj ho
          have ht_ := hall ⟨4, .data⟩ (by simp) rfl
          obtain ⟨p, e1, e2, e4, e3, e5⟩ := k4 ht_
          obtain ⟨s8, b8, e8, r8⟩ := k3 (hall ⟨3, .data⟩ (by simp) rfl)
          refine g_store_all 32 _ _ p [.bool s8, b8] _ 32 (show v 4 = _ from e1) (show v 3 = _ from e8) (e3 hti) szR rfl (one_rc _ _ r8.sl) (fun w' h1 h2 => ?_)
          exact ⟨h1.below hC e4, keepE (by decide) k0, keepE (by decide) k1, (fun h => by rw [setB_other _ _ _ (by decide)] at h; rw [setV_other _ _ _ _ (by decide)]; exact (k2 h).turn h1 (e3 hti) (by decide)), (fun h => by rw [setB_other _ _ _ (by decide)] at h; rw [setV_other _ _ _ _ (by decide)]; exact (k3 h).turn h1 (e3 hti) (by decide)), (fun h => ⟨p, by rw [setV_other _ _ _ _ (by decide)]; exact e1, Nat.lt_of_lt_of_le e2 h1.size, e4, (fun h => by have := setB_self t 5; rw [h] at this; cases this), fun _ => ⟨_, _, h2, r8.turn h1 (e3 hti) (by decide)⟩⟩), (fun _ => by rw [setB_other _ _ _ (by decide)]; exact ht_)⟩
        · simp at ho
      · simp only [full, Act.put, List.setIfInBounds_toArray, List.set_cons_succ, List.set_cons_zero, Nat.zero_add, Nat.reduceAdd]
        intro t v w9 hS ht
        obtain ⟨hC, k0, k1, k2, k3, k4, k5⟩ := hS
        obtain ⟨p_a, e1, -, e4, -, e5⟩ := k4 (ht 4 (by decide))
        obtain ⟨s_a, v_a, b_a, r_a⟩ := e5 (ht 5 (by decide))
        rw [e1]
        have d0 := k0 (ht 0 (by decide)); (try rw [d0])
        clear d0
        have d1 := k1 (ht 1 (by decide)); (try rw [d1])
        clear d1
        clear ht k0 k1 k2 k3 k4 k5 e1 e5
        generalize v 2 = y3_2
        generalize v 3 = y3_3
        generalize v 5 = y3_5
        have l_a : w.heap.size ≤ p_a := Nat.le_trans hB.size e4
        have o_a : p_c < p_a := Nat.lt_of_lt_of_le b_c.lt e4
        clear e4
        replace ra := ra.below hC
        replace r_n18 := r_n18.below hC
        replace r_l := r_l.below hC
        replace r_c := r_c.below hC
        replace b_m := b_m.below hC b_m.lt
        replace b_r := b_r.below hC b_r.lt
        replace b_x := b_x.below hC b_x.lt
        replace b_l := b_l.below hC b_l.lt
        replace b_c := b_c.below hC b_c.lt
        replace hB := hB.trans (hC.mono hB.size)
        clear hC
        go_wp2_with (first
          | ((with_reducible refine stop_region 6 ?_); intro X4 hX4))
        refine hX4.out ?_
        clear hX4
        refine wp_region_inv (by kernel_rfl) (by kernel_rfl) (fun t v wx => Below w9.heap.size w9 wx ∧ (t 0 = true → v 0 = .agg #[.bool sa, ba]) ∧ (t 1 = true → v 1 = .agg #[.bool s_c, v_c]) ∧ (t 2 = true → RN wx (v 2) (-EE)) ∧ (t 3 = true → RN wx (v 3) (BB)) ∧ (t 4 = true → ∃ p, v 4 = .pointer (some ⟨p, 0, none⟩) ∧ p < wx.heap.size ∧ w9.heap.size ≤ p ∧ (t 5 = false → Blk wx p [.bool false, .slice none 0 0] 32) ∧ (t 5 = true → RA wx p (BB))) ∧ (t 5 = true → t 4 = true)) ?_ ?_ ?_
        · exact ⟨(Below.refl _ _).drew, (fun h => by cases h), (fun h => by cases h), (fun h => by cases h), (fun h => by cases h), (fun h => by cases h), (fun h => by cases h)⟩
        · simp only [full, Act.put, List.setIfInBounds_toArray, List.set_cons_succ, List.set_cons_zero, Nat.zero_add, Nat.reduceAdd]
          intro i o ho t v wx hS hti hall
          obtain ⟨hC, k0, k1, k2, k3, k4, k5⟩ := hS
          rcases i with _ | _ | _ | _ | _ | _ | i
          · obtain rfl := Option.some.inj ho
            refine g_load_all 32 _ (w.heap.size) ([.bool sa, ba]) 32 _ rfl (b_m.below hC b_m.lt) Try.underlying32 rfl (szR) ?_
            exact ⟨hC, newE rfl, keepE (by decide) k1, (fun h => by rw [setB_other _ _ _ (by decide)] at h; rw [setV_other _ _ _ _ (by decide)]; exact k2 h), (fun h => by rw [setB_other _ _ _ (by decide)] at h; rw [setV_other _ _ _ _ (by decide)]; exact k3 h), (fun h => by rw [setB_other _ _ _ (by decide)] at h; obtain ⟨p, e1, e2, e4, e3, e5⟩ := k4 h; refine ⟨p, by rw [setV_other _ _ _ _ (by decide)]; exact e1, e2, e4, fun h5 => ?_, fun h5 => ?_⟩ <;> rw [setB_other _ _ _ (by decide)] at h5 <;> first | exact e3 h5 | exact e5 h5), (fun h => by rw [setB_other _ _ _ (by decide)] at h ⊢; exact k5 h)⟩
          · obtain rfl := Option.some.inj ho
            refine g_load_all 32 _ (p_c) ([.bool s_c, v_c]) 32 _ rfl (b_c.below hC b_c.lt) Try.underlying32 rfl (szR) ?_
            exact ⟨hC, keepE (by decide) k0, newE rfl, (fun h => by rw [setB_other _ _ _ (by decide)] at h; rw [setV_other _ _ _ _ (by decide)]; exact k2 h), (fun h => by rw [setB_other _ _ _ (by decide)] at h; rw [setV_other _ _ _ _ (by decide)]; exact k3 h), (fun h => by rw [setB_other _ _ _ (by decide)] at h; obtain ⟨p, e1, e2, e4, e3, e5⟩ := k4 h; refine ⟨p, by rw [setV_other _ _ _ _ (by decide)]; exact e1, e2, e4, fun h5 => ?_, fun h5 => ?_⟩ <;> rw [setB_other _ _ _ (by decide)] at h5 <;> first | exact e3 h5 | exact e5 h5), (fun h => by rw [setB_other _ _ _ (by decide)] at h ⊢; exact k5 h)⟩
          · obtain rfl := Option.some.inj ho
            have d1 := k1 (hall ⟨1, .data⟩ (by simp) rfl)
            refine g_call 38 _ _ [.agg #[.bool s_c, v_c]] (kf38 _ _) (by show ([v 1] : List Value) = _; rw [d1]; (try rfl)) ((less_any _ EE wx ⟨_, _, rfl, r_c.below hC⟩ fEE).mono ?_)
            rintro e w' ⟨u_, rfl, hp, hb⟩
            exact ⟨_, rfl, hC.trans (hb.mono hC.size), keepE (by decide) k0, keepE (by decide) k1, (fun _ => by rw [setV_self]; exact hp), (fun h => by rw [setB_other _ _ _ (by decide)] at h; rw [setV_other _ _ _ _ (by decide)]; exact (k3 h).below hb), (fun h => by rw [setB_other _ _ _ (by decide)] at h; obtain ⟨p, e1, e2, e4, e3, e5⟩ := k4 h; refine ⟨p, by rw [setV_other _ _ _ _ (by decide)]; exact e1, Nat.lt_of_lt_of_le e2 hb.size, e4, fun h5 => ?_, fun h5 => ?_⟩ <;> rw [setB_other _ _ _ (by decide)] at h5 <;> first | exact (e3 h5).below hb e2 | exact (e5 h5).below hb), (fun h => by rw [setB_other _ _ _ (by decide)] at h ⊢; exact k5 h)⟩
          · obtain rfl := Option.some.inj ho
            have d0 := k0 (hall ⟨0, .data⟩ (by simp) rfl)
            have d2 := k2 (hall ⟨2, .data⟩ (by simp) rfl)
            refine g_call 37 _ _ [.agg #[.bool sa, ba], v 2] (kf37 _ _) (by show ([v 0, v 2] : List Value) = _; rw [d0]; (try rfl)) ((radd_any _ _ z (-EE) BB wx ⟨_, _, rfl, ra.below hC⟩ d2 fz fEE2 hB2).mono ?_)
            rintro e w' ⟨u_, rfl, hp, hb⟩
            exact ⟨_, rfl, hC.trans (hb.mono hC.size), keepE (by decide) k0, keepE (by decide) k1, (fun h => by rw [setB_other _ _ _ (by decide)] at h; rw [setV_other _ _ _ _ (by decide)]; exact (k2 h).below hb), (fun _ => by rw [setV_self]; exact hp), (fun h => by rw [setB_other _ _ _ (by decide)] at h; obtain ⟨p, e1, e2, e4, e3, e5⟩ := k4 h; refine ⟨p, by rw [setV_other _ _ _ _ (by decide)]; exact e1, Nat.lt_of_lt_of_le e2 hb.size, e4, fun h5 => ?_, fun h5 => ?_⟩ <;> rw [setB_other _ _ _ (by decide)] at h5 <;> first | exact (e3 h5).below hb e2 | exact (e5 h5).below hb), (fun h => by rw [setB_other _ _ _ (by decide)] at h ⊢; exact k5 h)⟩
          · obtain rfl := Option.some.inj ho
            refine g_alloc 32 _ zeroR (fun w' h1 h2 => ?_)
            have hb := h1.toBelow
            exact ⟨hC.trans (hb.mono hC.size), keepE (by decide) k0, keepE (by decide) k1, (fun h => by rw [setB_other _ _ _ (by decide)] at h; rw [setV_other _ _ _ _ (by decide)]; exact (k2 h).below hb), (fun h => by rw [setB_other _ _ _ (by decide)] at h; rw [setV_other _ _ _ _ (by decide)]; exact (k3 h).below hb), (fun _ => ⟨wx.heap.size, setV_self _ _ _, h2.lt, hC.size, fun _ => h2, fun h => by rw [setB_other _ _ _ (by decide)] at h; have := k5 h; rw [hti] at this; cases this⟩), (fun _ => setB_self _ _)⟩
          · obtain rfl := Option.some.inj ho
            have ht_ := hall ⟨4, .data⟩ (by simp) rfl
            obtain ⟨p, e1, e2, e4, e3, e5⟩ := k4 ht_
            obtain ⟨s8, b8, e8, r8⟩ := k3 (hall ⟨3, .data⟩ (by simp) rfl)
            refine g_store_all 32 _ _ p [.bool s8, b8] _ 32 (show v 4 = _ from e1) (show v 3 = _ from e8) (e3 hti) szR rfl (one_rc _ _ r8.sl) (fun w' h1 h2 => ?_)
            exact ⟨h1.below hC e4, keepE (by decide) k0, keepE (by decide) k1, (fun h => by rw [setB_other _ _ _ (by decide)] at h; rw [setV_other _ _ _ _ (by decide)]; exact (k2 h).turn h1 (e3 hti) (by decide)), (fun h => by rw [setB_other _ _ _ (by decide)] at h; rw [setV_other _ _ _ _ (by decide)]; exact (k3 h).turn h1 (e3 hti) (by decide)), (fun h => ⟨p, by rw [setV_other _ _ _ _ (by decide)]; exact e1, Nat.lt_of_lt_of_le e2 h1.size, e4, (fun h => by have := setB_self t 5; rw [h] at this; cases this), fun _ => ⟨_, _, h2, r8.turn h1 (e3 hti) (by decide)⟩⟩), (fun _ => by rw [setB_other _ _ _ (by decide)]; exact ht_)⟩
          · simp at ho
        · simp only [full, Act.put, List.setIfInBounds_toArray, List.set_cons_succ, List.set_cons_zero, Nat.zero_add, Nat.reduceAdd]
          intro t v w10 hS ht
          obtain ⟨hC, k0, k1, k2, k3, k4, k5⟩ := hS
          obtain ⟨p_b, e1, -, e4, -, e5⟩ := k4 (ht 4 (by decide))
          obtain ⟨s_b, v_b, b_b, r_b⟩ := e5 (ht 5 (by decide))
          rw [e1]
          have d0 := k0 (ht 0 (by decide)); (try rw [d0])
          clear d0
          have d1 := k1 (ht 1 (by decide)); (try rw [d1])
          clear d1
          clear ht k0 k1 k2 k3 k4 k5 e1 e5
          generalize v 2 = y4_2
          generalize v 3 = y4_3
          generalize v 5 = y4_5
          have l_b : w.heap.size ≤ p_b := Nat.le_trans hB.size e4
          have o_b : p_a < p_b := Nat.lt_of_lt_of_le b_a.lt e4
          clear e4
          replace ra := ra.below hC
          replace r_n18 := r_n18.below hC
          replace r_l := r_l.below hC
          replace r_c := r_c.below hC
          replace r_a := r_a.below hC
          replace b_m := b_m.below hC b_m.lt
          replace b_r := b_r.below hC b_r.lt
          replace b_x := b_x.below hC b_x.lt
          replace b_l := b_l.below hC b_l.lt
          replace b_c := b_c.below hC b_c.lt
          replace b_a := b_a.below hC b_a.lt
          replace hB := hB.trans (hC.mono hB.size)
          clear hC
          go_wp2_with (first
            | ((with_reducible refine at_loadD 41 32 ?_); refine L_load_all 32 _ (p_a) ([.bool s_a, v_a]) 32 _ rfl b_a Try.underlying32 rfl (szR) ?_)
            | ((with_reducible refine at_loadD 42 32 ?_); refine L_load_all 32 _ (p_b) ([.bool s_b, v_b]) 32 _ rfl b_b Try.underlying32 rfl (szR) ?_))
          refine (rcmp_any _ _ AA BB KK w10 ⟨_, _, rfl, r_a⟩ ⟨_, _, rfl, r_b⟩ fA fB hK).mono ?_
          rintro e w11 ⟨rfl, t_⟩
          replace ra := ra.below t_
          replace r_n18 := r_n18.below t_
          replace r_l := r_l.below t_
          replace r_c := r_c.below t_
          replace r_a := r_a.below t_
          replace r_b := r_b.below t_
          replace b_m := b_m.below t_ b_m.lt
          replace b_r := b_r.below t_ b_r.lt
          replace b_x := b_x.below t_ b_x.lt
          replace b_l := b_l.below t_ b_l.lt
          replace b_c := b_c.below t_ b_c.lt
          replace b_a := b_a.below t_ b_a.lt
          replace b_b := b_b.below t_ b_b.lt
          replace hB := hB.trans (t_.mono hB.size)
          clear t_
          go_wp2_with (first
            | ((with_reducible refine at_binD 44 ?_); refine L_give (by rfl) (g_ileq 3 _ _ .i64 _ _ true rfl rfl (decide_eq_true (by omega)) ?_))
            | ((with_reducible refine at_loadD 45 32 ?_); refine L_load_all 32 _ (p_l) ([.bool s_l, v_l]) 32 _ rfl b_l Try.underlying32 rfl (szR) ?_)
            | ((with_reducible refine at_storeX 4 32 ?_); refine L_store_all 32 _ _ (w1.heap.size) ([.bool s_l, v_l]) _ 32 rfl rfl b_r (szR) (rfl) (one_rc _ _ r_l.sl) ?_; have b0_r := b_r; clear b_r; intro w12 t_ b_r; replace ra := ra.turn t_ b0_r (by decide); replace r_n18 := r_n18.turn t_ b0_r (by decide); replace r_l := r_l.turn t_ b0_r (by decide); replace r_c := r_c.turn t_ b0_r (by decide); replace r_a := r_a.turn t_ b0_r (by decide); replace r_b := r_b.turn t_ b0_r (by decide); replace b_m := t_.blk b_m (by omega); replace b_x := t_.blk b_x (by omega); replace b_l := t_.blk b_l (by omega); replace b_c := t_.blk b_c (by omega); replace b_a := t_.blk b_a (by omega); replace b_b := t_.blk b_b (by omega); replace hB := t_.below hB l_r; clear t_ b0_r))
          exact bodyPost_ret (results_blk rfl _ _ _ rfl b_r Try.underlying32 rfl szR) rfl ⟨_, rfl, ⟨_, _, rfl, r_l⟩, hB⟩

set_option maxRecDepth 10000 in
set_option maxHeartbeats 4000000 in
theorem rnear_gt (sa : Bool) (ba : Value) (s z L AA HH RR CC TT EE BB KK : Int) (w : World) (ra : RF w sa ba z) (hL : Hid (z % 18446744073709551616 = L)) (hA1 : IntKind.u64.wrap (s - L) = AA) (hH1 : AA / 2 = HH) (hH2 : IntKind.i64.wrap HH = HH) (jH : In64 HH) (jR : In64 RR) (hR1 : Hid (AA.tmod 2 = RR)) (hR2 : Hid (IntKind.i64.wrap RR = RR)) (hC2 : Hid (HH + HH = CC)) (hA2 : Hid (CC + RR = AA)) (hT : Hid (z + AA = TT)) (hE : Hid (TT + -18446744073709551616 = EE)) (hA3 : Hid (TT + -z = AA)) (hB2 : Hid (z + -EE = BB)) (hK : Hid (cmpI AA BB = KK)) (hle : ¬ KK ≤ 0)
    (fz : Few z 200) (fz2 : Few (-z) 200) (fH : Few HH 200) (fC : Few CC 200) (fR : Few RR 200) (fA : Few AA 200) (fT : Few TT 200) (fE : Few 18446744073709551616 200) (fE2 : Few (-18446744073709551616) 200) (fEE : Few EE 200) (fEE2 : Few (-EE) 200) (fB : Few BB 200) :
    Calls Try.prog 13 #[.int .u64 s, .agg #[.bool sa, ba]] w fun e w' => ∃ u, e = .returned u ∧ RN w' u EE ∧ Below w.heap.size w w' := by
  go_enter Try.func13, Try.ntmps13
  go_wp2_with (first
    | ((with_reducible refine at_boxD 3 32 ?_); refine L_box 32 _ ([.bool sa, ba]) rfl ?_; intro w1 t_ b_m; have l_m : w.heap.size ≤ w.heap.size := Nat.le_refl _; replace ra := ra.below t_.toBelow; have hB : Below w.heap.size w w1 := t_.below (Below.refl _ _) (Nat.le_refl _); clear t_)
    | ((with_reducible refine at_allocD 4 32 ?_); refine L_alloc 32 ([.bool false, .slice none 0 0]) zeroR ?_; intro w2 t_ b_r; have l_r : w.heap.size ≤ w1.heap.size := hB.size; have o_r := b_m.lt; replace ra := ra.below t_.toBelow; replace b_m := t_.blk b_m (by omega); replace hB := t_.below hB l_r; clear t_)
    | ((with_reducible refine at_loadD 12 32 ?_); refine L_load_all 32 _ (w.heap.size) ([.bool sa, ba]) 32 _ rfl b_m Try.underlying32 rfl (szR) ?_))
  refine (rfold_any _ z L w2 ⟨_, _, rfl, ra⟩ fz hL).mono ?_
  rintro e w3 ⟨rfl, t_⟩
  replace ra := ra.below t_
  replace b_m := b_m.below t_ b_m.lt
  replace b_r := b_r.below t_ b_r.lt
  replace hB := hB.trans (t_.mono hB.size)
  clear t_
  go_wp2_with fail
  refine (rof_any HH w3 jH).mono ?_
  rintro e w4 ⟨_, rfl, ⟨s_n18, v_n18, rfl, r_n18⟩, t_⟩
  replace ra := ra.below t_
  replace b_m := b_m.below t_ b_m.lt
  replace b_r := b_r.below t_ b_r.lt
  replace hB := hB.trans (t_.mono hB.size)
  clear t_
  go_wp2_with (first
    | ((with_reducible refine at_allocD 6 32 ?_); refine L_alloc 32 ([.bool false, .slice none 0 0]) zeroR ?_; intro w5 t_ b_x; have l_x : w.heap.size ≤ w4.heap.size := hB.size; have o_x := b_r.lt; replace ra := ra.below t_.toBelow; replace r_n18 := r_n18.below t_.toBelow; replace b_m := t_.blk b_m (by omega); replace b_r := t_.blk b_r (by omega); replace hB := t_.below hB l_x; clear t_)
    | ((with_reducible refine at_storeX 6 32 ?_); refine L_store_all 32 _ _ (w4.heap.size) ([.bool s_n18, v_n18]) _ 32 rfl rfl b_x (szR) (rfl) (one_rc _ _ r_n18.sl) ?_; have b0_x := b_x; clear b_x; intro w6 t_ b_x; replace ra := ra.turn t_ b0_x (by decide); replace r_n18 := r_n18.turn t_ b0_x (by decide); replace b_m := t_.blk b_m (by omega); replace b_r := t_.blk b_r (by omega); replace hB := t_.below hB l_x; clear t_ b0_x)
    | ((with_reducible refine stop_region 3 ?_); intro X1 hX1))
  refine hX1.out ?_
  clear hX1
  refine wp_region_inv (by kernel_rfl) (by kernel_rfl) (fun t v wx => Below w6.heap.size w6 wx ∧ (t 0 = true → v 0 = .agg #[.bool sa, ba]) ∧ (t 1 = true → v 1 = .agg #[.bool s_n18, v_n18]) ∧ (t 2 = true → v 2 = .agg #[.bool s_n18, v_n18]) ∧ (t 3 = true → RN wx (v 3) (CC)) ∧ (t 4 = true → v 4 = .int .u64 (AA)) ∧ (t 5 = true → v 5 = .int .u64 (RR)) ∧ (t 6 = true → v 6 = .int .i64 (RR)) ∧ (t 7 = true → RN wx (v 7) (RR)) ∧ (t 8 = true → RN wx (v 8) (AA)) ∧ (t 9 = true → RN wx (v 9) (TT)) ∧ (t 10 = true → ∃ p, v 10 = .pointer (some ⟨p, 0, none⟩) ∧ p < wx.heap.size ∧ w6.heap.size ≤ p ∧ (t 11 = false → Blk wx p [.bool false, .slice none 0 0] 32) ∧ (t 11 = true → RA wx p (TT))) ∧ (t 11 = true → t 10 = true)) ?_ ?_ ?_
  · exact ⟨(Below.refl _ _).drew, (fun h => by cases h), (fun h => by cases h), (fun h => by cases h), (fun h => by cases h), (fun h => by cases h), (fun h => by cases h), (fun h => by cases h), (fun h => by cases h), (fun h => by cases h), (fun h => by cases h), (fun h => by cases h), (fun h => by cases h)⟩
  · simp only [full, Act.put, List.setIfInBounds_toArray, List.set_cons_succ, List.set_cons_zero, Nat.zero_add, Nat.reduceAdd]
    intro i o ho t v wx hS hti hall
    obtain ⟨hC, k0, k1, k2, k3, k4, k5, k6, k7, k8, k9, k10, k11⟩ := hS
    rcases i with _ | _ | _ | _ | _ | _ | _ | _ | _ | _ | _ | _ | i
    · obtain rfl := Option.some.inj ho
      refine g_load_all 32 _ (w.heap.size) ([.bool sa, ba]) 32 _ rfl (b_m.below hC b_m.lt) Try.underlying32 rfl (szR) ?_
      exact ⟨hC, newE rfl, keepE (by decide) k1, keepE (by decide) k2, (fun h => by rw [setB_other _ _ _ (by decide)] at h; rw [setV_other _ _ _ _ (by decide)]; exact k3 h), keepE (by decide) k4, keepE (by decide) k5, keepE (by decide) k6, (fun h => by rw [setB_other _ _ _ (by decide)] at h; rw [setV_other _ _ _ _ (by decide)]; exact k7 h), (fun h => by rw [setB_other _ _ _ (by decide)] at h; rw [setV_other _ _ _ _ (by decide)]; exact k8 h), (fun h => by rw [setB_other _ _ _ (by decide)] at h; rw [setV_other _ _ _ _ (by decide)]; exact k9 h), (fun h => by rw [setB_other _ _ _ (by decide)] at h; obtain ⟨p, e1, e2, e4, e3, e5⟩ := k10 h; refine ⟨p, by rw [setV_other _ _ _ _ (by decide)]; exact e1, e2, e4, fun h5 => ?_, fun h5 => ?_⟩ <;> rw [setB_other _ _ _ (by decide)] at h5 <;> first | exact e3 h5 | exact e5 h5), (fun h => by rw [setB_other _ _ _ (by decide)] at h ⊢; exact k11 h)⟩
    · obtain rfl := Option.some.inj ho
      refine g_load_all 32 _ (w4.heap.size) ([.bool s_n18, v_n18]) 32 _ rfl (b_x.below hC b_x.lt) Try.underlying32 rfl (szR) ?_
      exact ⟨hC, keepE (by decide) k0, newE rfl, keepE (by decide) k2, (fun h => by rw [setB_other _ _ _ (by decide)] at h; rw [setV_other _ _ _ _ (by decide)]; exact k3 h), keepE (by decide) k4, keepE (by decide) k5, keepE (by decide) k6, (fun h => by rw [setB_other _ _ _ (by decide)] at h; rw [setV_other _ _ _ _ (by decide)]; exact k7 h), (fun h => by rw [setB_other _ _ _ (by decide)] at h; rw [setV_other _ _ _ _ (by decide)]; exact k8 h), (fun h => by rw [setB_other _ _ _ (by decide)] at h; rw [setV_other _ _ _ _ (by decide)]; exact k9 h), (fun h => by rw [setB_other _ _ _ (by decide)] at h; obtain ⟨p, e1, e2, e4, e3, e5⟩ := k10 h; refine ⟨p, by rw [setV_other _ _ _ _ (by decide)]; exact e1, e2, e4, fun h5 => ?_, fun h5 => ?_⟩ <;> rw [setB_other _ _ _ (by decide)] at h5 <;> first | exact e3 h5 | exact e5 h5), (fun h => by rw [setB_other _ _ _ (by decide)] at h ⊢; exact k11 h)⟩
    · obtain rfl := Option.some.inj ho
      refine g_load_all 32 _ (w4.heap.size) ([.bool s_n18, v_n18]) 32 _ rfl (b_x.below hC b_x.lt) Try.underlying32 rfl (szR) ?_
      exact ⟨hC, keepE (by decide) k0, keepE (by decide) k1, newE rfl, (fun h => by rw [setB_other _ _ _ (by decide)] at h; rw [setV_other _ _ _ _ (by decide)]; exact k3 h), keepE (by decide) k4, keepE (by decide) k5, keepE (by decide) k6, (fun h => by rw [setB_other _ _ _ (by decide)] at h; rw [setV_other _ _ _ _ (by decide)]; exact k7 h), (fun h => by rw [setB_other _ _ _ (by decide)] at h; rw [setV_other _ _ _ _ (by decide)]; exact k8 h), (fun h => by rw [setB_other _ _ _ (by decide)] at h; rw [setV_other _ _ _ _ (by decide)]; exact k9 h), (fun h => by rw [setB_other _ _ _ (by decide)] at h; obtain ⟨p, e1, e2, e4, e3, e5⟩ := k10 h; refine ⟨p, by rw [setV_other _ _ _ _ (by decide)]; exact e1, e2, e4, fun h5 => ?_, fun h5 => ?_⟩ <;> rw [setB_other _ _ _ (by decide)] at h5 <;> first | exact e3 h5 | exact e5 h5), (fun h => by rw [setB_other _ _ _ (by decide)] at h ⊢; exact k11 h)⟩
    · obtain rfl := Option.some.inj ho
      have d1 := k1 (hall ⟨1, .data⟩ (by simp) rfl)
      have d2 := k2 (hall ⟨2, .data⟩ (by simp) rfl)
      refine g_call 37 _ _ [.agg #[.bool s_n18, v_n18], .agg #[.bool s_n18, v_n18]] (kf37 _ _) (by show ([v 1, v 2] : List Value) = _; rw [d1, d2]; (try rfl)) ((radd_any _ _ HH HH CC wx ⟨_, _, rfl, r_n18.below hC⟩ ⟨_, _, rfl, r_n18.below hC⟩ fH fH hC2).mono ?_)
      rintro e w' ⟨u_, rfl, hp, hb⟩
      exact ⟨_, rfl, hC.trans (hb.mono hC.size), keepE (by decide) k0, keepE (by decide) k1, keepE (by decide) k2, (fun _ => by rw [setV_self]; exact hp), keepE (by decide) k4, keepE (by decide) k5, keepE (by decide) k6, (fun h => by rw [setB_other _ _ _ (by decide)] at h; rw [setV_other _ _ _ _ (by decide)]; exact (k7 h).below hb), (fun h => by rw [setB_other _ _ _ (by decide)] at h; rw [setV_other _ _ _ _ (by decide)]; exact (k8 h).below hb), (fun h => by rw [setB_other _ _ _ (by decide)] at h; rw [setV_other _ _ _ _ (by decide)]; exact (k9 h).below hb), (fun h => by rw [setB_other _ _ _ (by decide)] at h; obtain ⟨p, e1, e2, e4, e3, e5⟩ := k10 h; refine ⟨p, by rw [setV_other _ _ _ _ (by decide)]; exact e1, Nat.lt_of_lt_of_le e2 hb.size, e4, fun h5 => ?_, fun h5 => ?_⟩ <;> rw [setB_other _ _ _ (by decide)] at h5 <;> first | exact (e3 h5).below hb e2 | exact (e5 h5).below hb), (fun h => by rw [setB_other _ _ _ (by decide)] at h ⊢; exact k11 h)⟩
    · obtain rfl := Option.some.inj ho
      refine g_move _ _ rfl ?_
      exact ⟨hC, keepE (by decide) k0, keepE (by decide) k1, keepE (by decide) k2, (fun h => by rw [setB_other _ _ _ (by decide)] at h; rw [setV_other _ _ _ _ (by decide)]; exact k3 h), newE rfl, keepE (by decide) k5, keepE (by decide) k6, (fun h => by rw [setB_other _ _ _ (by decide)] at h; rw [setV_other _ _ _ _ (by decide)]; exact k7 h), (fun h => by rw [setB_other _ _ _ (by decide)] at h; rw [setV_other _ _ _ _ (by decide)]; exact k8 h), (fun h => by rw [setB_other _ _ _ (by decide)] at h; rw [setV_other _ _ _ _ (by decide)]; exact k9 h), (fun h => by rw [setB_other _ _ _ (by decide)] at h; obtain ⟨p, e1, e2, e4, e3, e5⟩ := k10 h; refine ⟨p, by rw [setV_other _ _ _ _ (by decide)]; exact e1, e2, e4, fun h5 => ?_, fun h5 => ?_⟩ <;> rw [setB_other _ _ _ (by decide)] at h5 <;> first | exact e3 h5 | exact e5 h5), (fun h => by rw [setB_other _ _ _ (by decide)] at h ⊢; exact k11 h)⟩
    · obtain rfl := Option.some.inj ho
      have d4 := k4 (hall ⟨4, .data⟩ (by simp) rfl)
      refine g_rem2 _ _ _ (show v 4 = _ from d4) hR1.out ?_
      exact ⟨hC, keepE (by decide) k0, keepE (by decide) k1, keepE (by decide) k2, (fun h => by rw [setB_other _ _ _ (by decide)] at h; rw [setV_other _ _ _ _ (by decide)]; exact k3 h), keepE (by decide) k4, newE rfl, keepE (by decide) k6, (fun h => by rw [setB_other _ _ _ (by decide)] at h; rw [setV_other _ _ _ _ (by decide)]; exact k7 h), (fun h => by rw [setB_other _ _ _ (by decide)] at h; rw [setV_other _ _ _ _ (by decide)]; exact k8 h), (fun h => by rw [setB_other _ _ _ (by decide)] at h; rw [setV_other _ _ _ _ (by decide)]; exact k9 h), (fun h => by rw [setB_other _ _ _ (by decide)] at h; obtain ⟨p, e1, e2, e4, e3, e5⟩ := k10 h; refine ⟨p, by rw [setV_other _ _ _ _ (by decide)]; exact e1, e2, e4, fun h5 => ?_, fun h5 => ?_⟩ <;> rw [setB_other _ _ _ (by decide)] at h5 <;> first | exact e3 h5 | exact e5 h5), (fun h => by rw [setB_other _ _ _ (by decide)] at h ⊢; exact k11 h)⟩
    · obtain rfl := Option.some.inj ho
      have d5 := k5 (hall ⟨5, .data⟩ (by simp) rfl)
      refine g_conv _ _ _ (show v 5 = _ from d5) hR2.out ?_
      exact ⟨hC, keepE (by decide) k0, keepE (by decide) k1, keepE (by decide) k2, (fun h => by rw [setB_other _ _ _ (by decide)] at h; rw [setV_other _ _ _ _ (by decide)]; exact k3 h), keepE (by decide) k4, keepE (by decide) k5, newE rfl, (fun h => by rw [setB_other _ _ _ (by decide)] at h; rw [setV_other _ _ _ _ (by decide)]; exact k7 h), (fun h => by rw [setB_other _ _ _ (by decide)] at h; rw [setV_other _ _ _ _ (by decide)]; exact k8 h), (fun h => by rw [setB_other _ _ _ (by decide)] at h; rw [setV_other _ _ _ _ (by decide)]; exact k9 h), (fun h => by rw [setB_other _ _ _ (by decide)] at h; obtain ⟨p, e1, e2, e4, e3, e5⟩ := k10 h; refine ⟨p, by rw [setV_other _ _ _ _ (by decide)]; exact e1, e2, e4, fun h5 => ?_, fun h5 => ?_⟩ <;> rw [setB_other _ _ _ (by decide)] at h5 <;> first | exact e3 h5 | exact e5 h5), (fun h => by rw [setB_other _ _ _ (by decide)] at h ⊢; exact k11 h)⟩
    · obtain rfl := Option.some.inj ho
      have d6 := k6 (hall ⟨6, .data⟩ (by simp) rfl)
      refine g_call 36 _ _ [.int .i64 (RR)] (kf36 _ _) (by show ([v 6] : List Value) = _; rw [d6]; (try rfl)) ((rof_any RR wx jR).mono ?_)
      rintro e w' ⟨u_, rfl, hp, hb⟩
      exact ⟨_, rfl, hC.trans (hb.mono hC.size), keepE (by decide) k0, keepE (by decide) k1, keepE (by decide) k2, (fun h => by rw [setB_other _ _ _ (by decide)] at h; rw [setV_other _ _ _ _ (by decide)]; exact (k3 h).below hb), keepE (by decide) k4, keepE (by decide) k5, keepE (by decide) k6, (fun _ => by rw [setV_self]; exact hp), (fun h => by rw [setB_other _ _ _ (by decide)] at h; rw [setV_other _ _ _ _ (by decide)]; exact (k8 h).below hb), (fun h => by rw [setB_other _ _ _ (by decide)] at h; rw [setV_other _ _ _ _ (by decide)]; exact (k9 h).below hb), (fun h => by rw [setB_other _ _ _ (by decide)] at h; obtain ⟨p, e1, e2, e4, e3, e5⟩ := k10 h; refine ⟨p, by rw [setV_other _ _ _ _ (by decide)]; exact e1, Nat.lt_of_lt_of_le e2 hb.size, e4, fun h5 => ?_, fun h5 => ?_⟩ <;> rw [setB_other _ _ _ (by decide)] at h5 <;> first | exact (e3 h5).below hb e2 | exact (e5 h5).below hb), (fun h => by rw [setB_other _ _ _ (by decide)] at h ⊢; exact k11 h)⟩
    · obtain rfl := Option.some.inj ho
      have d3 := k3 (hall ⟨3, .data⟩ (by simp) rfl)
      have d7 := k7 (hall ⟨7, .data⟩ (by simp) rfl)
      refine g_call 37 _ _ [v 3, v 7] (kf37 _ _) (rfl) ((radd_any _ _ CC RR AA wx d3 d7 fC fR hA2).mono ?_)
      rintro e w' ⟨u_, rfl, hp, hb⟩
      exact ⟨_, rfl, hC.trans (hb.mono hC.size), keepE (by decide) k0, keepE (by decide) k1, keepE (by decide) k2, (fun h => by rw [setB_other _ _ _ (by decide)] at h; rw [setV_other _ _ _ _ (by decide)]; exact (k3 h).below hb), keepE (by decide) k4, keepE (by decide) k5, keepE (by decide) k6, (fun h => by rw [setB_other _ _ _ (by decide)] at h; rw [setV_other _ _ _ _ (by decide)]; exact (k7 h).below hb), (fun _ => by rw [setV_self]; exact hp), (fun h => by rw [setB_other _ _ _ (by decide)] at h; rw [setV_other _ _ _ _ (by decide)]; exact (k9 h).below hb), (fun h => by rw [setB_other _ _ _ (by decide)] at h; obtain ⟨p, e1, e2, e4, e3, e5⟩ := k10 h; refine ⟨p, by rw [setV_other _ _ _ _ (by decide)]; exact e1, Nat.lt_of_lt_of_le e2 hb.size, e4, fun h5 => ?_, fun h5 => ?_⟩ <;> rw [setB_other _ _ _ (by decide)] at h5 <;> first | exact (e3 h5).below hb e2 | exact (e5 h5).below hb), (fun h => by rw [setB_other _ _ _ (by decide)] at h ⊢; exact k11 h)⟩
    · obtain rfl := Option.some.inj ho
      have d0 := k0 (hall ⟨0, .data⟩ (by simp) rfl)
      have d8 := k8 (hall ⟨8, .data⟩ (by simp) rfl)
      refine g_call 37 _ _ [.agg #[.bool sa, ba], v 8] (kf37 _ _) (by show ([v 0, v 8] : List Value) = _; rw [d0]; (try rfl)) ((radd_any _ _ z AA TT wx ⟨_, _, rfl, ra.below hC⟩ d8 fz fA hT).mono ?_)
      rintro e w' ⟨u_, rfl, hp, hb⟩
      exact ⟨_, rfl, hC.trans (hb.mono hC.size), keepE (by decide) k0, keepE (by decide) k1, keepE (by decide) k2, (fun h => by rw [setB_other _ _ _ (by decide)] at h; rw [setV_other _ _ _ _ (by decide)]; exact (k3 h).below hb), keepE (by decide) k4, keepE (by decide) k5, keepE (by decide) k6, (fun h => by rw [setB_other _ _ _ (by decide)] at h; rw [setV_other _ _ _ _ (by decide)]; exact (k7 h).below hb), (fun h => by rw [setB_other _ _ _ (by decide)] at h; rw [setV_other _ _ _ _ (by decide)]; exact (k8 h).below hb), (fun _ => by rw [setV_self]; exact hp), (fun h => by rw [setB_other _ _ _ (by decide)] at h; obtain ⟨p, e1, e2, e4, e3, e5⟩ := k10 h; refine ⟨p, by rw [setV_other _ _ _ _ (by decide)]; exact e1, Nat.lt_of_lt_of_le e2 hb.size, e4, fun h5 => ?_, fun h5 => ?_⟩ <;> rw [setB_other _ _ _ (by decide)] at h5 <;> first | exact (e3 h5).below hb e2 | exact (e5 h5).below hb), (fun h => by rw [setB_other _ _ _ (by decide)] at h ⊢; exact k11 h)⟩
    · obtain rfl := Option.some.inj ho
      refine g_alloc 32 _ zeroR (fun w' h1 h2 => ?_)
      have hb := h1.toBelow
      exact ⟨hC.trans (hb.mono hC.size), keepE (by decide) k0, keepE (by decide) k1, keepE (by decide) k2, (fun h => by rw [setB_other _ _ _ (by decide)] at h; rw [setV_other _ _ _ _ (by decide)]; exact (k3 h).below hb), keepE (by decide) k4, keepE (by decide) k5, keepE (by decide) k6, (fun h => by rw [setB_other _ _ _ (by decide)] at h; rw [setV_other _ _ _ _ (by decide)]; exact (k7 h).below hb), (fun h => by rw [setB_other _ _ _ (by decide)] at h; rw [setV_other _ _ _ _ (by decide)]; exact (k8 h).below hb), (fun h => by rw [setB_other _ _ _ (by decide)] at h; rw [setV_other _ _ _ _ (by decide)]; exact (k9 h).below hb), (fun _ => ⟨wx.heap.size, setV_self _ _ _, h2.lt, hC.size, fun _ => h2, fun h => by rw [setB_other _ _ _ (by decide)] at h; have := k11 h; rw [hti] at this; cases this⟩), (fun _ => setB_self _ _)⟩
    · obtain rfl := Option.some.inj ho
      have ht_ := hall ⟨10, .data⟩ (by simp) rfl
      obtain ⟨p, e1, e2, e4, e3, e5⟩ := k10 ht_
      obtain ⟨s8, b8, e8, r8⟩ := k9 (hall ⟨9, .data⟩ (by simp) rfl)
      refine g_store_all 32 _ _ p [.bool s8, b8] _ 32 (show v 10 = _ from e1) (show v 9 = _ from e8) (e3 hti) szR rfl (one_rc _ _ r8.sl) (fun w' h1 h2 => ?_)
      exact ⟨h1.below hC e4, keepE (by decide) k0, keepE (by decide) k1, keepE (by decide) k2, (fun h => by rw [setB_other _ _ _ (by decide)] at h; rw [setV_other _ _ _ _ (by decide)]; exact (k3 h).turn h1 (e3 hti) (by decide)), keepE (by decide) k4, keepE (by decide) k5, keepE (by decide) k6, (fun h => by rw [setB_other _ _ _ (by decide)] at h; rw [setV_other _ _ _ _ (by decide)]; exact (k7 h).turn h1 (e3 hti) (by decide)), (fun h => by rw [setB_other _ _ _ (by decide)] at h; rw [setV_other _ _ _ _ (by decide)]; exact (k8 h).turn h1 (e3 hti) (by decide)), (fun h => by rw [setB_other _ _ _ (by decide)] at h; rw [setV_other _ _ _ _ (by decide)]; exact (k9 h).turn h1 (e3 hti) (by decide)), (fun h => ⟨p, by rw [setV_other _ _ _ _ (by decide)]; exact e1, Nat.lt_of_lt_of_le e2 h1.size, e4, (fun h => by have := setB_self t 11; rw [h] at this; cases this), fun _ => ⟨_, _, h2, r8.turn h1 (e3 hti) (by decide)⟩⟩), (fun _ => by rw [setB_other _ _ _ (by decide)]; exact ht_)⟩
    · simp at ho
  · simp only [full, Act.put, List.setIfInBounds_toArray, List.set_cons_succ, List.set_cons_zero, Nat.zero_add, Nat.reduceAdd]
    intro t v w7 hS ht
    obtain ⟨hC, k0, k1, k2, k3, k4, k5, k6, k7, k8, k9, k10, k11⟩ := hS
    obtain ⟨p_l, e1, -, e4, -, e5⟩ := k10 (ht 10 (by decide))
    obtain ⟨s_l, v_l, b_l, r_l⟩ := e5 (ht 11 (by decide))
    rw [e1]
    have d0 := k0 (ht 0 (by decide)); (try rw [d0])
    clear d0
    have d1 := k1 (ht 1 (by decide)); (try rw [d1])
    clear d1
    have d2 := k2 (ht 2 (by decide)); (try rw [d2])
    clear d2
    have d4 := k4 (ht 4 (by decide)); (try rw [d4])
    clear d4
    have d5 := k5 (ht 5 (by decide)); (try rw [d5])
    clear d5
    have d6 := k6 (ht 6 (by decide)); (try rw [d6])
    clear d6
    clear ht k0 k1 k2 k3 k4 k5 k6 k7 k8 k9 k10 k11 e1 e5
    generalize v 3 = y1_3
    generalize v 7 = y1_7
    generalize v 8 = y1_8
    generalize v 9 = y1_9
    generalize v 11 = y1_11
    have l_l : w.heap.size ≤ p_l := Nat.le_trans hB.size e4
    have o_l : w4.heap.size < p_l := Nat.lt_of_lt_of_le b_x.lt e4
    clear e4
    replace ra := ra.below hC
    replace r_n18 := r_n18.below hC
    replace b_m := b_m.below hC b_m.lt
    replace b_r := b_r.below hC b_r.lt
    replace b_x := b_x.below hC b_x.lt
    replace hB := hB.trans (hC.mono hB.size)
    clear hC
    go_wp2_with (first
      | ((with_reducible refine stop_region 4 ?_); intro X2 hX2))
    refine hX2.out ?_
    clear hX2
    refine wp_region_inv (by kernel_rfl) (by kernel_rfl) (fun t v wx => Below w7.heap.size w7 wx ∧ (t 0 = true → v 0 = .agg #[.bool s_l, v_l]) ∧ (t 1 = true → RN wx (v 1) (18446744073709551616)) ∧ (t 2 = true → RN wx (v 2) (-18446744073709551616)) ∧ (t 3 = true → RN wx (v 3) (EE)) ∧ (t 4 = true → ∃ p, v 4 = .pointer (some ⟨p, 0, none⟩) ∧ p < wx.heap.size ∧ w7.heap.size ≤ p ∧ (t 5 = false → Blk wx p [.bool false, .slice none 0 0] 32) ∧ (t 5 = true → RA wx p (EE))) ∧ (t 5 = true → t 4 = true)) ?_ ?_ ?_
    · exact ⟨(Below.refl _ _).drew, (fun h => by cases h), (fun h => by cases h), (fun h => by cases h), (fun h => by cases h), (fun h => by cases h), (fun h => by cases h)⟩
    · simp only [full, Act.put, List.setIfInBounds_toArray, List.set_cons_succ, List.set_cons_zero, Nat.zero_add, Nat.reduceAdd]
      intro i o ho t v wx hS hti hall
      obtain ⟨hC, k0, k1, k2, k3, k4, k5⟩ := hS
      rcases i with _ | _ | _ | _ | _ | _ | i
      · obtain rfl := Option.some.inj ho
        refine g_load_all 32 _ (p_l) ([.bool s_l, v_l]) 32 _ rfl (b_l.below hC b_l.lt) Try.underlying32 rfl (szR) ?_
        exact ⟨hC, newE rfl, (fun h => by rw [setB_other _ _ _ (by decide)] at h; rw [setV_other _ _ _ _ (by decide)]; exact k1 h), (fun h => by rw [setB_other _ _ _ (by decide)] at h; rw [setV_other _ _ _ _ (by decide)]; exact k2 h), (fun h => by rw [setB_other _ _ _ (by decide)] at h; rw [setV_other _ _ _ _ (by decide)]; exact k3 h), (fun h => by rw [setB_other _ _ _ (by decide)] at h; obtain ⟨p, e1, e2, e4, e3, e5⟩ := k4 h; refine ⟨p, by rw [setV_other _ _ _ _ (by decide)]; exact e1, e2, e4, fun h5 => ?_, fun h5 => ?_⟩ <;> rw [setB_other _ _ _ (by decide)] at h5 <;> first | exact e3 h5 | exact e5 h5), (fun h => by rw [setB_other _ _ _ (by decide)] at h ⊢; exact k5 h)⟩
      · obtain rfl := Option.some.inj ho
        refine g_call 39 _ _ [] (kf39 _ _) (rfl) ((era_any wx).mono ?_)
        rintro e w' ⟨u_, rfl, hp, hb⟩
        exact ⟨_, rfl, hC.trans (hb.mono hC.size), keepE (by decide) k0, (fun _ => by rw [setV_self]; exact hp), (fun h => by rw [setB_other _ _ _ (by decide)] at h; rw [setV_other _ _ _ _ (by decide)]; exact (k2 h).below hb), (fun h => by rw [setB_other _ _ _ (by decide)] at h; rw [setV_other _ _ _ _ (by decide)]; exact (k3 h).below hb), (fun h => by rw [setB_other _ _ _ (by decide)] at h; obtain ⟨p, e1, e2, e4, e3, e5⟩ := k4 h; refine ⟨p, by rw [setV_other _ _ _ _ (by decide)]; exact e1, Nat.lt_of_lt_of_le e2 hb.size, e4, fun h5 => ?_, fun h5 => ?_⟩ <;> rw [setB_other _ _ _ (by decide)] at h5 <;> first | exact (e3 h5).below hb e2 | exact (e5 h5).below hb), (fun h => by rw [setB_other _ _ _ (by decide)] at h ⊢; exact k5 h)⟩
      · obtain rfl := Option.some.inj ho
        have d1 := k1 (hall ⟨1, .data⟩ (by simp) rfl)
        refine g_call 38 _ _ [v 1] (kf38 _ _) (rfl) ((less_any _ 18446744073709551616 wx d1 fE).mono ?_)
        rintro e w' ⟨u_, rfl, hp, hb⟩
        exact ⟨_, rfl, hC.trans (hb.mono hC.size), keepE (by decide) k0, (fun h => by rw [setB_other _ _ _ (by decide)] at h; rw [setV_other _ _ _ _ (by decide)]; exact (k1 h).below hb), (fun _ => by rw [setV_self]; exact hp), (fun h => by rw [setB_other _ _ _ (by decide)] at h; rw [setV_other _ _ _ _ (by decide)]; exact (k3 h).below hb), (fun h => by rw [setB_other _ _ _ (by decide)] at h; obtain ⟨p, e1, e2, e4, e3, e5⟩ := k4 h; refine ⟨p, by rw [setV_other _ _ _ _ (by decide)]; exact e1, Nat.lt_of_lt_of_le e2 hb.size, e4, fun h5 => ?_, fun h5 => ?_⟩ <;> rw [setB_other _ _ _ (by decide)] at h5 <;> first | exact (e3 h5).below hb e2 | exact (e5 h5).below hb), (fun h => by rw [setB_other _ _ _ (by decide)] at h ⊢; exact k5 h)⟩
      · obtain rfl := Option.some.inj ho
        have d0 := k0 (hall ⟨0, .data⟩ (by simp) rfl)
        have d2 := k2 (hall ⟨2, .data⟩ (by simp) rfl)
        refine g_call 37 _ _ [.agg #[.bool s_l, v_l], v 2] (kf37 _ _) (by show ([v 0, v 2] : List Value) = _; rw [d0]; (try rfl)) ((radd_any _ _ TT (-18446744073709551616) EE wx ⟨_, _, rfl, r_l.below hC⟩ d2 fT fE2 hE).mono ?_)
        rintro e w' ⟨u_, rfl, hp, hb⟩
        exact ⟨_, rfl, hC.trans (hb.mono hC.size), keepE (by decide) k0, (fun h => by rw [setB_other _ _ _ (by decide)] at h; rw [setV_other _ _ _ _ (by decide)]; exact (k1 h).below hb), (fun h => by rw [setB_other _ _ _ (by decide)] at h; rw [setV_other _ _ _ _ (by decide)]; exact (k2 h).below hb), (fun _ => by rw [setV_self]; exact hp), (fun h => by rw [setB_other _ _ _ (by decide)] at h; obtain ⟨p, e1, e2, e4, e3, e5⟩ := k4 h; refine ⟨p, by rw [setV_other _ _ _ _ (by decide)]; exact e1, Nat.lt_of_lt_of_le e2 hb.size, e4, fun h5 => ?_, fun h5 => ?_⟩ <;> rw [setB_other _ _ _ (by decide)] at h5 <;> first | exact (e3 h5).below hb e2 | exact (e5 h5).below hb), (fun h => by rw [setB_other _ _ _ (by decide)] at h ⊢; exact k5 h)⟩
      · obtain rfl := Option.some.inj ho
        refine g_alloc 32 _ zeroR (fun w' h1 h2 => ?_)
        have hb := h1.toBelow
        exact ⟨hC.trans (hb.mono hC.size), keepE (by decide) k0, (fun h => by rw [setB_other _ _ _ (by decide)] at h; rw [setV_other _ _ _ _ (by decide)]; exact (k1 h).below hb), (fun h => by rw [setB_other _ _ _ (by decide)] at h; rw [setV_other _ _ _ _ (by decide)]; exact (k2 h).below hb), (fun h => by rw [setB_other _ _ _ (by decide)] at h; rw [setV_other _ _ _ _ (by decide)]; exact (k3 h).below hb), (fun _ => ⟨wx.heap.size, setV_self _ _ _, h2.lt, hC.size, fun _ => h2, fun h => by rw [setB_other _ _ _ (by decide)] at h; have := k5 h; rw [hti] at this; cases this⟩), (fun _ => setB_self _ _)⟩
      · obtain rfl := Option.some.inj ho
        have ht_ := hall ⟨4, .data⟩ (by simp) rfl
        obtain ⟨p, e1, e2, e4, e3, e5⟩ := k4 ht_
        obtain ⟨s8, b8, e8, r8⟩ := k3 (hall ⟨3, .data⟩ (by simp) rfl)
        refine g_store_all 32 _ _ p [.bool s8, b8] _ 32 (show v 4 = _ from e1) (show v 3 = _ from e8) (e3 hti) szR rfl (one_rc _ _ r8.sl) (fun w' h1 h2 => ?_)
        exact ⟨h1.below hC e4, keepE (by decide) k0, (fun h => by rw [setB_other _ _ _ (by decide)] at h; rw [setV_other _ _ _ _ (by decide)]; exact (k1 h).turn h1 (e3 hti) (by decide)), (fun h => by rw [setB_other _ _ _ (by decide)] at h; rw [setV_other _ _ _ _ (by decide)]; exact (k2 h).turn h1 (e3 hti) (by decide)), (fun h => by rw [setB_other _ _ _ (by decide)] at h; rw [setV_other _ _ _ _ (by decide)]; exact (k3 h).turn h1 (e3 hti) (by decide)), (fun h => ⟨p, by rw [setV_other _ _ _ _ (by decide)]; exact e1, Nat.lt_of_lt_of_le e2 h1.size, e4, (fun h => by have := setB_self t 5; rw [h] at this; cases this), fun _ => ⟨_, _, h2, r8.turn h1 (e3 hti) (by decide)⟩⟩), (fun _ => by rw [setB_other _ _ _ (by decide)]; exact ht_)⟩
      · simp at ho
    · simp only [full, Act.put, List.setIfInBounds_toArray, List.set_cons_succ, List.set_cons_zero, Nat.zero_add, Nat.reduceAdd]
      intro t v w8 hS ht
      obtain ⟨hC, k0, k1, k2, k3, k4, k5⟩ := hS
      obtain ⟨p_c, e1, -, e4, -, e5⟩ := k4 (ht 4 (by decide))
      obtain ⟨s_c, v_c, b_c, r_c⟩ := e5 (ht 5 (by decide))
      rw [e1]
      have d0 := k0 (ht 0 (by decide)); (try rw [d0])
      clear d0
      clear ht k0 k1 k2 k3 k4 k5 e1 e5
      generalize v 1 = y2_1
      generalize v 2 = y2_2
      generalize v 3 = y2_3
      generalize v 5 = y2_5
      have l_c : w.heap.size ≤ p_c := Nat.le_trans hB.size e4
      have o_c : p_l < p_c := Nat.lt_of_lt_of_le b_l.lt e4
      clear e4
      replace ra := ra.below hC
      replace r_n18 := r_n18.below hC
      replace r_l := r_l.below hC
      replace b_m := b_m.below hC b_m.lt
      replace b_r := b_r.below hC b_r.lt
      replace b_x := b_x.below hC b_x.lt
      replace b_l := b_l.below hC b_l.lt
      replace hB := hB.trans (hC.mono hB.size)
      clear hC
      go_wp2_with (first
        | ((with_reducible refine stop_region 5 ?_); intro X3 hX3))
      refine hX3.out ?_
      clear hX3
      refine wp_region_inv (by kernel_rfl) (by kernel_rfl) (fun t v wx => Below w8.heap.size w8 wx ∧ (t 0 = true → v 0 = .agg #[.bool s_l, v_l]) ∧ (t 1 = true → v 1 = .agg #[.bool sa, ba]) ∧ (t 2 = true → RN wx (v 2) (-z)) ∧ (t 3 = true → RN wx (v 3) (AA)) ∧ (t 4 = true → ∃ p, v 4 = .pointer (some ⟨p, 0, none⟩) ∧ p < wx.heap.size ∧ w8.heap.size ≤ p ∧ (t 5 = false → Blk wx p [.bool false, .slice none 0 0] 32) ∧ (t 5 = true → RA wx p (AA))) ∧ (t 5 = true → t 4 = true)) ?_ ?_ ?_
      · exact ⟨(Below.refl _ _).drew, (fun h => by cases h), (fun h => by cases h), (fun h => by cases h), (fun h => by cases h), (fun h => by cases h), (fun h => by cases h)⟩
      · simp only [full, Act.put, List.setIfInBounds_toArray, List.set_cons_succ, List.set_cons_zero, Nat.zero_add, Nat.reduceAdd]
        intro i o ho t v wx hS hti hall
        obtain ⟨hC, k0, k1, k2, k3, k4, k5⟩ := hS
        rcases i with _ | _ | _ | _ | _ | _ | i
        · obtain rfl := Option.some.inj ho
          refine g_load_all 32 _ (p_l) ([.bool s_l, v_l]) 32 _ rfl (b_l.below hC b_l.lt) Try.underlying32 rfl (szR) ?_
          exact ⟨hC, newE rfl, keepE (by decide) k1, (fun h => by rw [setB_other _ _ _ (by decide)] at h; rw [setV_other _ _ _ _ (by decide)]; exact k2 h), (fun h => by rw [setB_other _ _ _ (by decide)] at h; rw [setV_other _ _ _ _ (by decide)]; exact k3 h), (fun h => by rw [setB_other _ _ _ (by decide)] at h; obtain ⟨p, e1, e2, e4, e3, e5⟩ := k4 h; refine ⟨p, by rw [setV_other _ _ _ _ (by decide)]; exact e1, e2, e4, fun h5 => ?_, fun h5 => ?_⟩ <;> rw [setB_other _ _ _ (by decide)] at h5 <;> first | exact e3 h5 | exact e5 h5), (fun h => by rw [setB_other _ _ _ (by decide)] at h ⊢; exact k5 h)⟩
        · obtain rfl := Option.some.inj ho
          refine g_load_all 32 _ (w.heap.size) ([.bool sa, ba]) 32 _ rfl (b_m.below hC b_m.lt) Try.underlying32 rfl (szR) ?_
          exact ⟨hC, keepE (by decide) k0, newE rfl, (fun h => by rw [setB_other _ _ _ (by decide)] at h; rw [setV_other _ _ _ _ (by decide)]; exact k2 h), (fun h => by rw [setB_other _ _ _ (by decide)] at h; rw [setV_other _ _ _ _ (by decide)]; exact k3 h), (fun h => by rw [setB_other _ _ _ (by decide)] at h; obtain ⟨p, e1, e2, e4, e3, e5⟩ := k4 h; refine ⟨p, by rw [setV_other _ _ _ _ (by decide)]; exact e1, e2, e4, fun h5 => ?_, fun h5 => ?_⟩ <;> rw [setB_other _ _ _ (by decide)] at h5 <;> first | exact e3 h5 | exact e5 h5), (fun h => by rw [setB_other _ _ _ (by decide)] at h ⊢; exact k5 h)⟩
        · obtain rfl := Option.some.inj ho
          have d1 := k1 (hall ⟨1, .data⟩ (by simp) rfl)
          refine g_call 38 _ _ [.agg #[.bool sa, ba]] (kf38 _ _) (by show ([v 1] : List Value) = _; rw [d1]; (try rfl)) ((less_any _ z wx ⟨_, _, rfl, ra.below hC⟩ fz).mono ?_)
          rintro e w' ⟨u_, rfl, hp, hb⟩
          exact ⟨_, rfl, hC.trans (hb.mono hC.size), keepE (by decide) k0, keepE (by decide) k1, (fun _ => by rw [setV_self]; exact hp), (fun h => by rw [setB_other _ _ _ (by decide)] at h; rw [setV_other _ _ _ _ (by decide)]; exact (k3 h).below hb), (fun h => by rw [setB_other _ _ _ (by decide)] at h; obtain ⟨p, e1, e2, e4, e3, e5⟩ := k4 h; refine ⟨p, by rw [setV_other _ _ _ _ (by decide)]; exact e1, Nat.lt_of_lt_of_le e2 hb.size, e4, fun h5 => ?_, fun h5 => ?_⟩ <;> rw [setB_other _ _ _ (by decide)] at h5 <;> first | exact (e3 h5).below hb e2 | exact (e5 h5).below hb), (fun h => by rw [setB_other _ _ _ (by decide)] at h ⊢; exact k5 h)⟩
        · obtain rfl := Option.some.inj ho
          have d0 := k0 (hall ⟨0, .data⟩ (by simp) rfl)
          have d2 := k2 (hall ⟨2, .data⟩ (by simp) rfl)
          refine g_call 37 _ _ [.agg #[.bool s_l, v_l], v 2] (kf37 _ _) (by show ([v 0, v 2] : List Value) = _; rw [d0]; (try rfl)) ((radd_any _ _ TT (-z) AA wx ⟨_, _, rfl, r_l.below hC⟩ d2 fT fz2 hA3).mono ?_)
          rintro e w' ⟨u_, rfl, hp, hb⟩
          exact ⟨_, rfl, hC.trans (hb.mono hC.size), keepE (by decide) k0, keepE (by decide) k1, (fun h => by rw [setB_other _ _ _ (by decide)] at h; rw [setV_other _ _ _ _ (by decide)]; exact (k2 h).below hb), (fun _ => by rw [setV_self]; exact hp), (fun h => by rw [setB_other _ _ _ (by decide)] at h; obtain ⟨p, e1, e2, e4, e3, e5⟩ := k4 h; refine ⟨p, by rw [setV_other _ _ _ _ (by decide)]; exact e1, Nat.lt_of_lt_of_le e2 hb.size, e4, fun h5 => ?_, fun h5 => ?_⟩ <;> rw [setB_other _ _ _ (by decide)] at h5 <;> first | exact (e3 h5).below hb e2 | exact (e5 h5).below hb), (fun h => by rw [setB_other _ _ _ (by decide)] at h ⊢; exact k5 h)⟩
        · obtain rfl := Option.some.inj ho
          refine g_alloc 32 _ zeroR (fun w' h1 h2 => ?_)
          have hb := h1.toBelow
          exact ⟨hC.trans (hb.mono hC.size), keepE (by decide) k0, keepE (by decide) k1, (fun h => by rw [setB_other _ _ _ (by decide)] at h; rw [setV_other _ _ _ _ (by decide)]; exact (k2 h).below hb), (fun h => by rw [setB_other _ _ _ (by decide)] at h; rw [setV_other _ _ _ _ (by decide)]; exact (k3 h).below hb), (fun _ => ⟨wx.heap.size, setV_self _ _ _, h2.lt, hC.size, fun _ => h2, fun h => by rw [setB_other _ _ _ (by decide)] at h; have := k5 h; rw [hti] at this; cases this⟩), (fun _ => setB_self _ _)⟩
        · obtain rfl := Option.some.inj ho
          have ht_ := hall ⟨4, .data⟩ (by simp) rfl
          obtain ⟨p, e1, e2, e4, e3, e5⟩ := k4 ht_
          obtain ⟨s8, b8, e8, r8⟩ := k3 (hall ⟨3, .data⟩ (by simp) rfl)
          refine g_store_all 32 _ _ p [.bool s8, b8] _ 32 (show v 4 = _ from e1) (show v 3 = _ from e8) (e3 hti) szR rfl (one_rc _ _ r8.sl) (fun w' h1 h2 => ?_)
          exact ⟨h1.below hC e4, keepE (by decide) k0, keepE (by decide) k1, (fun h => by rw [setB_other _ _ _ (by decide)] at h; rw [setV_other _ _ _ _ (by decide)]; exact (k2 h).turn h1 (e3 hti) (by decide)), (fun h => by rw [setB_other _ _ _ (by decide)] at h; rw [setV_other _ _ _ _ (by decide)]; exact (k3 h).turn h1 (e3 hti) (by decide)), (fun h => ⟨p, by rw [setV_other _ _ _ _ (by decide)]; exact e1, Nat.lt_of_lt_of_le e2 h1.size, e4, (fun h => by have := setB_self t 5; rw [h] at this; cases this), fun _ => ⟨_, _, h2, r8.turn h1 (e3 hti) (by decide)⟩⟩), (fun _ => by rw [setB_other _ _ _ (by decide)]; exact ht_)⟩
        · simp at ho
      · simp only [full, Act.put, List.setIfInBounds_toArray, List.set_cons_succ, List.set_cons_zero, Nat.zero_add, Nat.reduceAdd]
        intro t v w9 hS ht
        obtain ⟨hC, k0, k1, k2, k3, k4, k5⟩ := hS
        obtain ⟨p_a, e1, -, e4, -, e5⟩ := k4 (ht 4 (by decide))
        obtain ⟨s_a, v_a, b_a, r_a⟩ := e5 (ht 5 (by decide))
        rw [e1]
        have d0 := k0 (ht 0 (by decide)); (try rw [d0])
        clear d0
        have d1 := k1 (ht 1 (by decide)); (try rw [d1])
        clear d1
        clear ht k0 k1 k2 k3 k4 k5 e1 e5
        generalize v 2 = y3_2
        generalize v 3 = y3_3
        generalize v 5 = y3_5
        have l_a : w.heap.size ≤ p_a := Nat.le_trans hB.size e4
        have o_a : p_c < p_a := Nat.lt_of_lt_of_le b_c.lt e4
        clear e4
        replace ra := ra.below hC
        replace r_n18 := r_n18.below hC
        replace r_l := r_l.below hC
        replace r_c := r_c.below hC
        replace b_m := b_m.below hC b_m.lt
        replace b_r := b_r.below hC b_r.lt
        replace b_x := b_x.below hC b_x.lt
        replace b_l := b_l.below hC b_l.lt
        replace b_c := b_c.below hC b_c.lt
        replace hB := hB.trans (hC.mono hB.size)
        clear hC
        go_wp2_with (first
          | ((with_reducible refine stop_region 6 ?_); intro X4 hX4))
        refine hX4.out ?_
        clear hX4
        refine wp_region_inv (by kernel_rfl) (by kernel_rfl) (fun t v wx => Below w9.heap.size w9 wx ∧ (t 0 = true → v 0 = .agg #[.bool sa, ba]) ∧ (t 1 = true → v 1 = .agg #[.bool s_c, v_c]) ∧ (t 2 = true → RN wx (v 2) (-EE)) ∧ (t 3 = true → RN wx (v 3) (BB)) ∧ (t 4 = true → ∃ p, v 4 = .pointer (some ⟨p, 0, none⟩) ∧ p < wx.heap.size ∧ w9.heap.size ≤ p ∧ (t 5 = false → Blk wx p [.bool false, .slice none 0 0] 32) ∧ (t 5 = true → RA wx p (BB))) ∧ (t 5 = true → t 4 = true)) ?_ ?_ ?_
        · exact ⟨(Below.refl _ _).drew, (fun h => by cases h), (fun h => by cases h), (fun h => by cases h), (fun h => by cases h), (fun h => by cases h), (fun h => by cases h)⟩
        · simp only [full, Act.put, List.setIfInBounds_toArray, List.set_cons_succ, List.set_cons_zero, Nat.zero_add, Nat.reduceAdd]
          intro i o ho t v wx hS hti hall
          obtain ⟨hC, k0, k1, k2, k3, k4, k5⟩ := hS
          rcases i with _ | _ | _ | _ | _ | _ | i
          · obtain rfl := Option.some.inj ho
            refine g_load_all 32 _ (w.heap.size) ([.bool sa, ba]) 32 _ rfl (b_m.below hC b_m.lt) Try.underlying32 rfl (szR) ?_
            exact ⟨hC, newE rfl, keepE (by decide) k1, (fun h => by rw [setB_other _ _ _ (by decide)] at h; rw [setV_other _ _ _ _ (by decide)]; exact k2 h), (fun h => by rw [setB_other _ _ _ (by decide)] at h; rw [setV_other _ _ _ _ (by decide)]; exact k3 h), (fun h => by rw [setB_other _ _ _ (by decide)] at h; obtain ⟨p, e1, e2, e4, e3, e5⟩ := k4 h; refine ⟨p, by rw [setV_other _ _ _ _ (by decide)]; exact e1, e2, e4, fun h5 => ?_, fun h5 => ?_⟩ <;> rw [setB_other _ _ _ (by decide)] at h5 <;> first | exact e3 h5 | exact e5 h5), (fun h => by rw [setB_other _ _ _ (by decide)] at h ⊢; exact k5 h)⟩
          · obtain rfl := Option.some.inj ho
            refine g_load_all 32 _ (p_c) ([.bool s_c, v_c]) 32 _ rfl (b_c.below hC b_c.lt) Try.underlying32 rfl (szR) ?_
            exact ⟨hC, keepE (by decide) k0, newE rfl, (fun h => by rw [setB_other _ _ _ (by decide)] at h; rw [setV_other _ _ _ _ (by decide)]; exact k2 h), (fun h => by rw [setB_other _ _ _ (by decide)] at h; rw [setV_other _ _ _ _ (by decide)]; exact k3 h), (fun h => by rw [setB_other _ _ _ (by decide)] at h; obtain ⟨p, e1, e2, e4, e3, e5⟩ := k4 h; refine ⟨p, by rw [setV_other _ _ _ _ (by decide)]; exact e1, e2, e4, fun h5 => ?_, fun h5 => ?_⟩ <;> rw [setB_other _ _ _ (by decide)] at h5 <;> first | exact e3 h5 | exact e5 h5), (fun h => by rw [setB_other _ _ _ (by decide)] at h ⊢; exact k5 h)⟩
          · obtain rfl := Option.some.inj ho
            have d1 := k1 (hall ⟨1, .data⟩ (by simp) rfl)
            refine g_call 38 _ _ [.agg #[.bool s_c, v_c]] (kf38 _ _) (by show ([v 1] : List Value) = _; rw [d1]; (try rfl)) ((less_any _ EE wx ⟨_, _, rfl, r_c.below hC⟩ fEE).mono ?_)
            rintro e w' ⟨u_, rfl, hp, hb⟩
            exact ⟨_, rfl, hC.trans (hb.mono hC.size), keepE (by decide) k0, keepE (by decide) k1, (fun _ => by rw [setV_self]; exact hp), (fun h => by rw [setB_other _ _ _ (by decide)] at h; rw [setV_other _ _ _ _ (by decide)]; exact (k3 h).below hb), (fun h => by rw [setB_other _ _ _ (by decide)] at h; obtain ⟨p, e1, e2, e4, e3, e5⟩ := k4 h; refine ⟨p, by rw [setV_other _ _ _ _ (by decide)]; exact e1, Nat.lt_of_lt_of_le e2 hb.size, e4, fun h5 => ?_, fun h5 => ?_⟩ <;> rw [setB_other _ _ _ (by decide)] at h5 <;> first | exact (e3 h5).below hb e2 | exact (e5 h5).below hb), (fun h => by rw [setB_other _ _ _ (by decide)] at h ⊢; exact k5 h)⟩
          · obtain rfl := Option.some.inj ho
            have d0 := k0 (hall ⟨0, .data⟩ (by simp) rfl)
            have d2 := k2 (hall ⟨2, .data⟩ (by simp) rfl)
            refine g_call 37 _ _ [.agg #[.bool sa, ba], v 2] (kf37 _ _) (by show ([v 0, v 2] : List Value) = _; rw [d0]; (try rfl)) ((radd_any _ _ z (-EE) BB wx ⟨_, _, rfl, ra.below hC⟩ d2 fz fEE2 hB2).mono ?_)
            rintro e w' ⟨u_, rfl, hp, hb⟩
            exact ⟨_, rfl, hC.trans (hb.mono hC.size), keepE (by decide) k0, keepE (by decide) k1, (fun h => by rw [setB_other _ _ _ (by decide)] at h; rw [setV_other _ _ _ _ (by decide)]; exact (k2 h).below hb), (fun _ => by rw [setV_self]; exact hp), (fun h => by rw [setB_other _ _ _ (by decide)] at h; obtain ⟨p, e1, e2, e4, e3, e5⟩ := k4 h; refine ⟨p, by rw [setV_other _ _ _ _ (by decide)]; exact e1, Nat.lt_of_lt_of_le e2 hb.size, e4, fun h5 => ?_, fun h5 => ?_⟩ <;> rw [setB_other _ _ _ (by decide)] at h5 <;> first | exact (e3 h5).below hb e2 | exact (e5 h5).below hb), (fun h => by rw [setB_other _ _ _ (by decide)] at h ⊢; exact k5 h)⟩
          · obtain rfl := Option.some.inj ho
            refine g_alloc 32 _ zeroR (fun w' h1 h2 => ?_)
            have hb := h1.toBelow
            exact ⟨hC.trans (hb.mono hC.size), keepE (by decide) k0, keepE (by decide) k1, (fun h => by rw [setB_other _ _ _ (by decide)] at h; rw [setV_other _ _ _ _ (by decide)]; exact (k2 h).below hb), (fun h => by rw [setB_other _ _ _ (by decide)] at h; rw [setV_other _ _ _ _ (by decide)]; exact (k3 h).below hb), (fun _ => ⟨wx.heap.size, setV_self _ _ _, h2.lt, hC.size, fun _ => h2, fun h => by rw [setB_other _ _ _ (by decide)] at h; have := k5 h; rw [hti] at this; cases this⟩), (fun _ => setB_self _ _)⟩
          · obtain rfl := Option.some.inj ho
            have ht_ := hall ⟨4, .data⟩ (by simp) rfl
            obtain ⟨p, e1, e2, e4, e3, e5⟩ := k4 ht_
            obtain ⟨s8, b8, e8, r8⟩ := k3 (hall ⟨3, .data⟩ (by simp) rfl)
            refine g_store_all 32 _ _ p [.bool s8, b8] _ 32 (show v 4 = _ from e1) (show v 3 = _ from e8) (e3 hti) szR rfl (one_rc _ _ r8.sl) (fun w' h1 h2 => ?_)
            exact ⟨h1.below hC e4, keepE (by decide) k0, keepE (by decide) k1, (fun h => by rw [setB_other _ _ _ (by decide)] at h; rw [setV_other _ _ _ _ (by decide)]; exact (k2 h).turn h1 (e3 hti) (by decide)), (fun h => by rw [setB_other _ _ _ (by decide)] at h; rw [setV_other _ _ _ _ (by decide)]; exact (k3 h).turn h1 (e3 hti) (by decide)), (fun h => ⟨p, by rw [setV_other _ _ _ _ (by decide)]; exact e1, Nat.lt_of_lt_of_le e2 h1.size, e4, (fun h => by have := setB_self t 5; rw [h] at this; cases this), fun _ => ⟨_, _, h2, r8.turn h1 (e3 hti) (by decide)⟩⟩), (fun _ => by rw [setB_other _ _ _ (by decide)]; exact ht_)⟩
          · simp at ho
        · simp only [full, Act.put, List.setIfInBounds_toArray, List.set_cons_succ, List.set_cons_zero, Nat.zero_add, Nat.reduceAdd]
          intro t v w10 hS ht
          obtain ⟨hC, k0, k1, k2, k3, k4, k5⟩ := hS
          obtain ⟨p_b, e1, -, e4, -, e5⟩ := k4 (ht 4 (by decide))
          obtain ⟨s_b, v_b, b_b, r_b⟩ := e5 (ht 5 (by decide))
          rw [e1]
          have d0 := k0 (ht 0 (by decide)); (try rw [d0])
          clear d0
          have d1 := k1 (ht 1 (by decide)); (try rw [d1])
          clear d1
          clear ht k0 k1 k2 k3 k4 k5 e1 e5
          generalize v 2 = y4_2
          generalize v 3 = y4_3
          generalize v 5 = y4_5
          have l_b : w.heap.size ≤ p_b := Nat.le_trans hB.size e4
          have o_b : p_a < p_b := Nat.lt_of_lt_of_le b_a.lt e4
          clear e4
          replace ra := ra.below hC
          replace r_n18 := r_n18.below hC
          replace r_l := r_l.below hC
          replace r_c := r_c.below hC
          replace r_a := r_a.below hC
          replace b_m := b_m.below hC b_m.lt
          replace b_r := b_r.below hC b_r.lt
          replace b_x := b_x.below hC b_x.lt
          replace b_l := b_l.below hC b_l.lt
          replace b_c := b_c.below hC b_c.lt
          replace b_a := b_a.below hC b_a.lt
          replace hB := hB.trans (hC.mono hB.size)
          clear hC
          go_wp2_with (first
            | ((with_reducible refine at_loadD 41 32 ?_); refine L_load_all 32 _ (p_a) ([.bool s_a, v_a]) 32 _ rfl b_a Try.underlying32 rfl (szR) ?_)
            | ((with_reducible refine at_loadD 42 32 ?_); refine L_load_all 32 _ (p_b) ([.bool s_b, v_b]) 32 _ rfl b_b Try.underlying32 rfl (szR) ?_))
          refine (rcmp_any _ _ AA BB KK w10 ⟨_, _, rfl, r_a⟩ ⟨_, _, rfl, r_b⟩ fA fB hK).mono ?_
          rintro e w11 ⟨rfl, t_⟩
          replace ra := ra.below t_
          replace r_n18 := r_n18.below t_
          replace r_l := r_l.below t_
          replace r_c := r_c.below t_
          replace r_a := r_a.below t_
          replace r_b := r_b.below t_
          replace b_m := b_m.below t_ b_m.lt
          replace b_r := b_r.below t_ b_r.lt
          replace b_x := b_x.below t_ b_x.lt
          replace b_l := b_l.below t_ b_l.lt
          replace b_c := b_c.below t_ b_c.lt
          replace b_a := b_a.below t_ b_a.lt
          replace b_b := b_b.below t_ b_b.lt
          replace hB := hB.trans (t_.mono hB.size)
          clear t_
          go_wp2_with (first
            | ((with_reducible refine at_binD 44 ?_); refine L_give (by rfl) (g_ileq 3 _ _ .i64 _ _ false rfl rfl (decide_eq_false (by omega)) ?_))
            | ((with_reducible refine at_loadD 46 32 ?_); refine L_load_all 32 _ (p_c) ([.bool s_c, v_c]) 32 _ rfl b_c Try.underlying32 rfl (szR) ?_)
            | ((with_reducible refine at_storeX 4 32 ?_); refine L_store_all 32 _ _ (w1.heap.size) ([.bool s_c, v_c]) _ 32 rfl rfl b_r (szR) (rfl) (one_rc _ _ r_c.sl) ?_; have b0_r := b_r; clear b_r; intro w12 t_ b_r; replace ra := ra.turn t_ b0_r (by decide); replace r_n18 := r_n18.turn t_ b0_r (by decide); replace r_l := r_l.turn t_ b0_r (by decide); replace r_c := r_c.turn t_ b0_r (by decide); replace r_a := r_a.turn t_ b0_r (by decide); replace r_b := r_b.turn t_ b0_r (by decide); replace b_m := t_.blk b_m (by omega); replace b_x := t_.blk b_x (by omega); replace b_l := t_.blk b_l (by omega); replace b_c := t_.blk b_c (by omega); replace b_a := t_.blk b_a (by omega); replace b_b := t_.blk b_b (by omega); replace hB := t_.below hB l_r; clear t_ b0_r))
          exact bodyPost_ret (results_blk rfl _ _ _ rfl b_r Try.underlying32 rfl szR) rfl ⟨_, rfl, ⟨_, _, rfl, r_c⟩, hB⟩

theorem cmp_le (a b : Int) : cmpI a b ≤ 0 ↔ a ≤ b := by
  unfold cmpI; repeat' split
  all_goals omega
theorem rnear_any (u : Value) (s z n : Int) (w : World) (hu : RN w u z) (hz : In128 z) (hn : Hid (nr s z = n)) :
    Calls Try.prog 13 #[.int .u64 s, u] w fun e w' => ∃ u, e = .returned u ∧ RN w' u n ∧ Below w.heap.size w w' := by
  obtain ⟨sa, ba, rfl, ra⟩ := hu
  have hn := hn.out
  subst hn
  unfold In128 at hz
  have hA : IntKind.u64.wrap (s - z % 18446744073709551616) = (s - z) % 18446744073709551616 := by rw [IntKind.wrap_u64]; omega
  unfold nr
  generalize hd : (s - z) % 18446744073709551616 = d at *
  have hd2 : 0 ≤ d ∧ d < 18446744073709551616 := by omega
  have hm : d.tmod 2 = d % 2 := Int.tmod_eq_emod_of_nonneg hd2.1
  split
  · exact rnear_gt sa ba s z _ d (d / 2) (d % 2) (d / 2 + d / 2) (z + d) (z + d - 18446744073709551616) (18446744073709551616 - d) _ w ra rfl hA rfl (by rw [IntKind.wrap_i64]; omega) (by unfold In64; omega) (by unfold In64; omega) hm (by show _ = _; rw [IntKind.wrap_i64]; omega) rfl (by show _ = _; omega) rfl rfl (by show _ = _; omega) (by show _ = _; omega) rfl (by rw [cmp_le]; omega)
      (few128 _ (by omega)) (few128 _ (by omega)) (few128 _ (by omega)) (few128 _ (by omega)) (few128 _ (by omega)) (few128 _ (by omega)) (few128 _ (by omega)) (few128 _ (by omega)) (few128 _ (by omega)) (few128 _ (by omega)) (few128 _ (by omega)) (few128 _ (by omega))
  · exact rnear_le sa ba s z _ d (d / 2) (d % 2) (d / 2 + d / 2) (z + d) (z + d - 18446744073709551616) (18446744073709551616 - d) _ w ra rfl hA rfl (by rw [IntKind.wrap_i64]; omega) (by unfold In64; omega) (by unfold In64; omega) hm (by show _ = _; rw [IntKind.wrap_i64]; omega) rfl (by show _ = _; omega) rfl rfl (by show _ = _; omega) (by show _ = _; omega) rfl (by rw [cmp_le]; omega)
      (few128 _ (by omega)) (few128 _ (by omega)) (few128 _ (by omega)) (few128 _ (by omega)) (few128 _ (by omega)) (few128 _ (by omega)) (few128 _ (by omega)) (few128 _ (by omega)) (few128 _ (by omega)) (few128 _ (by omega)) (few128 _ (by omega)) (few128 _ (by omega))

end Go.Proofs.Ytpeiboehdjhimaa
