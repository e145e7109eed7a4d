/- What the program's mac.With answers: a closure that holds the two states. -/
import Derived.Test.YtdfpnicpcndkjaaDoorMacW3
namespace Go.Proofs.YtdfpnicpcndkjaaDoor
set_option maxRecDepth 10000
open Go.RowKit
set_option linter.unusedVariables false

theorem kf37 (vs : Array Value) (w : World) : (callFunc 37 vs).run Tryd.prog w = .ok (.enter 37 vs) w := by go_simp
set_option maxRecDepth 100000 in
set_option maxHeartbeats 1000000 in
theorem with_any (K : ByteArray) (hK : K.size ≤ 549755813888) (w : World) (hT : Tabs w) :
    Calls Tryd.prog 32 #[.string K] w fun e w' => ∃ p q : Nat, e = .returned (.func (.func 38) #[] #[.pointer (some ⟨p, 0, none⟩), .pointer (some ⟨q, 0, none⟩)]) ∧ w.heap.size ≤ p ∧ w.heap.size ≤ q ∧
      Blk w' p (stc (nearSt K.data.toList)) 77 ∧ Blk w' q (stc (farSt K.data.toList)) 77 ∧ Below w.heap.size w w' := by
  have hts := hT.size
  obtain ⟨B, hBk⟩ : ∃ B, blkK K.data.toList = B := ⟨_, rfl⟩
  have HB : Hid (B.length = 64) := by show _ = _; rw [← hBk]; exact blkK_length _
  have HNR : Hid (more zeroSt (xk 54 B) = nearSt K.data.toList) := by show _ = _; rw [← hBk]; rfl
  have HFR : Hid (more zeroSt (xk 92 B) = farSt K.data.toList) := by show _ = _; rw [← hBk]; rfl
  have HBK : Hid (blkK K.data.toList = B) := hBk
  clear hBk
  go_enter Tryd.func32, Tryd.ntmps32
  go_wp2_with fail
  refine (mfilled_any K hK w hT).mono ?_; rw [HBK.out]; rintro e w1 ⟨rfl, hb1⟩
  have n1 := hb1.size
  go_wp2_with (first
    | ((with_reducible refine at_alloc 73 ?_); refine L_alloc 73 _ zero73 ?_; intro w3 h3 hb3)
    | ((with_reducible refine at_store 73 ?_); refine L_store_all 73 _ _ w1.heap.size (bc B) _ 73 rfl rfl hb3 (size73' B HB.out) (by rw [bc_length, HB.out]; rfl) (bc_one _) ?_; intro w4 h4 hb4))
  have hB4 : Below w.heap.size w w4 := h4.below (h3.below hb1 (by omega)) (by omega)
  have n4 := hb4.lt
  clear h3 h4 hb3
  refine wp_region_inv (by kernel_rfl) (by kernel_rfl) (fun t v wx => Below (w4.heap.size) w4 wx ∧ w4.heap.size ≤ wx.heap.size ∧ (t 0 = true → v 0 = .agg (bc B).toArray) ∧ (t 1 = true → v 1 = .agg (stc (nearSt K.data.toList)).toArray) ∧ (t 2 = true → v 2 = .agg (bc B).toArray) ∧ (t 3 = true → v 3 = .agg (stc (farSt K.data.toList)).toArray) ∧ (t 4 = true → ∃ p, v 4 = .pointer (some ⟨p, 0, none⟩) ∧ w4.heap.size ≤ p ∧ p < wx.heap.size ∧ (t 6 = false → Blk wx p (stc zeroSt) 77) ∧ (t 6 = true → Blk wx p (stc (nearSt K.data.toList)) 77)) ∧ (t 5 = true → ∃ p, v 5 = .pointer (some ⟨p, 0, none⟩) ∧ w4.heap.size ≤ p ∧ p < wx.heap.size ∧ (t 7 = false → Blk wx p (stc zeroSt) 77) ∧ (t 7 = true → Blk wx p (stc (farSt K.data.toList)) 77)) ∧ (t 6 = true → t 4 = true) ∧ (t 7 = true → t 5 = true) ∧ (t 4 = true → t 5 = true → v 4 ≠ v 5)) ?_ ?_ ?_
  · exact ⟨(Below.refl _ _).drew, Nat.le_refl _, (fun h => by cases h), (fun h => by cases h), (fun h => by cases h), (fun h => by cases h), (fun h => by cases h), (fun h => by cases h), (fun h => by cases h), (fun h => by cases h), (fun h => by cases h)⟩
  · simp only [full, Act.put, List.setIfInBounds_toArray, List.set_cons_succ, List.set_cons_zero, Nat.zero_add, Nat.reduceAdd]
    intro i o ho t v wx hS hti hall
    obtain ⟨hB, hsz, k0, k1, k2, k3, k4, k5, k6, k7, n4_5⟩ := hS
    have hnw : w4.heap.size ≤ wx.heap.size := Nat.le_trans (by omega) hsz
    have hTx : Tabs wx := (hT.below hB4 hts).below hB (by omega)
    rcases i with _ | _ | _ | _ | _ | _ | _ | _ | i
    · obtain rfl := Option.some.inj ho
      refine g_load_all 73 _ (w1.heap.size) (bc B) _ _ rfl ((hb4.below hB (by omega))) Tryd.underlying73 rfl (size73' B HB.out) ?_
      exact ⟨hB, hsz, newE rfl, keepE (by decide) k1, keepE (by decide) k2, keepE (by decide) k3, k4, k5, k6, k7, n4_5⟩
    · obtain rfl := Option.some.inj ho
      have d0 := k0 (hall ⟨0, .data⟩ (by simp) rfl)
      refine g_call 37 _ _ [.agg (bc B).toArray, .int .u8 54] (kf37 _ _) (by show [v 0, _] = _; rw [d0]; (try rfl)) ((masked_any B HB.out 54 wx hTx).mono ?_)
      rw [HNR.out]
      rintro e w' ⟨rfl, hb⟩
      exact ⟨_, rfl, hB.trans (hb.mono hnw), Nat.le_trans hsz hb.size, keepE (by decide) k0, newE rfl, keepE (by decide) k2, keepE (by decide) k3, (fun ht => by obtain ⟨p, e1, e2, e5, e3, e4⟩ := k4 ht; exact ⟨p, e1, e2, Nat.lt_of_lt_of_le e5 hb.size, fun h7 => (e3 h7).below hb e5, fun h7 => (e4 h7).below hb e5⟩), (fun ht => by obtain ⟨p, e1, e2, e5, e3, e4⟩ := k5 ht; exact ⟨p, e1, e2, Nat.lt_of_lt_of_le e5 hb.size, fun h7 => (e3 h7).below hb e5, fun h7 => (e4 h7).below hb e5⟩), k6, k7, n4_5⟩
    · obtain rfl := Option.some.inj ho
      refine g_load_all 73 _ (w1.heap.size) (bc B) _ _ rfl ((hb4.below hB (by omega))) Tryd.underlying73 rfl (size73' B HB.out) ?_
      exact ⟨hB, hsz, keepE (by decide) k0, keepE (by decide) k1, newE rfl, keepE (by decide) k3, k4, k5, k6, k7, n4_5⟩
    · obtain rfl := Option.some.inj ho
      have d2 := k2 (hall ⟨2, .data⟩ (by simp) rfl)
      refine g_call 37 _ _ [.agg (bc B).toArray, .int .u8 92] (kf37 _ _) (by show [v 2, _] = _; rw [d2]; (try rfl)) ((masked_any B HB.out 92 wx hTx).mono ?_)
      rw [HFR.out]
      rintro e w' ⟨rfl, hb⟩
      exact ⟨_, rfl, hB.trans (hb.mono hnw), Nat.le_trans hsz hb.size, keepE (by decide) k0, keepE (by decide) k1, keepE (by decide) k2, newE rfl, (fun ht => by obtain ⟨p, e1, e2, e5, e3, e4⟩ := k4 ht; exact ⟨p, e1, e2, Nat.lt_of_lt_of_le e5 hb.size, fun h7 => (e3 h7).below hb e5, fun h7 => (e4 h7).below hb e5⟩), (fun ht => by obtain ⟨p, e1, e2, e5, e3, e4⟩ := k5 ht; exact ⟨p, e1, e2, Nat.lt_of_lt_of_le e5 hb.size, fun h7 => (e3 h7).below hb e5, fun h7 => (e4 h7).below hb e5⟩), k6, k7, n4_5⟩
    · obtain rfl := Option.some.inj ho
      refine g_alloc 77 _ zero77 (fun w' h1 h2 => ?_)
      exact ⟨h1.below hB hnw, Nat.le_trans hsz h1.size, keepE (by decide) k0, keepE (by decide) k1, keepE (by decide) k2, keepE (by decide) k3, (fun ht => ⟨wx.heap.size, setV_self _ _ _, hsz, h2.lt, fun _ => h2, fun h7 => by have h6 := k6 h7; rw [hti] at h6; cases h6⟩), (fun ht => by obtain ⟨p, e1, e2, e5, e3, e4⟩ := k5 ht; exact ⟨p, e1, e2, Nat.lt_of_lt_of_le e5 h1.size, fun h7 => h1.blk (e3 h7) (by omega), fun h7 => h1.blk (e4 h7) (by omega)⟩), (fun _ => setB_self _ _), k7, (fun h h' => by obtain ⟨p', f1, f2, f5, -⟩ := k5 h'; intro hh; rw [setV_self] at hh; have hh2 := hh.trans f1; simp only [Value.pointer.injEq, Option.some.injEq, Addr.mk.injEq] at hh2; omega)⟩
    · obtain rfl := Option.some.inj ho
      refine g_alloc 77 _ zero77 (fun w' h1 h2 => ?_)
      exact ⟨h1.below hB hnw, Nat.le_trans hsz h1.size, keepE (by decide) k0, keepE (by decide) k1, keepE (by decide) k2, keepE (by decide) k3, (fun ht => by obtain ⟨p, e1, e2, e5, e3, e4⟩ := k4 ht; exact ⟨p, e1, e2, Nat.lt_of_lt_of_le e5 h1.size, fun h7 => h1.blk (e3 h7) (by omega), fun h7 => h1.blk (e4 h7) (by omega)⟩), (fun ht => ⟨wx.heap.size, setV_self _ _ _, hsz, h2.lt, fun _ => h2, fun h7 => by have h6 := k7 h7; rw [hti] at h6; cases h6⟩), k6, (fun _ => setB_self _ _), (fun h h' => by obtain ⟨p', f1, f2, f5, -⟩ := k4 h; intro hh; rw [setV_self] at hh; have hh2 := f1.symm.trans hh; simp only [Value.pointer.injEq, Option.some.injEq, Addr.mk.injEq] at hh2; omega)⟩
    · obtain rfl := Option.some.inj ho
      have ht6 := hall ⟨4, .data⟩ (by simp) rfl
      have d1 := k1 (hall ⟨1, .data⟩ (by simp) rfl)
      obtain ⟨p, e1, e2, e5, e3, e4⟩ := k4 ht6
      refine g_store_all 77 _ _ p (stc (nearSt K.data.toList)) _ 77 (show v 4 = _ from e1) (show v 1 = _ from d1) (e3 hti) (zs77 _ (near_ok _)) (by rw [stc_length _ (near_ok _)]; rfl) (stc_one _) (fun w' h1 h2 => ?_)
      exact ⟨h1.below hB (by omega), Nat.le_trans hsz h1.size, keepE (by decide) k0, keepE (by decide) k1, keepE (by decide) k2, keepE (by decide) k3, (fun ht => ⟨p, e1, e2, Nat.lt_of_lt_of_le e5 h1.size, (fun h7 => by have h8 := setB_self t 6; rw [h7] at h8; cases h8), fun _ => h2⟩), (fun ht => by obtain ⟨p', f1, f2, f5, f3, f4⟩ := k5 ht; have hne : p' ≠ p := (by intro h; have := n4_5 ht6 ht; apply this; rw [e1, f1, h]); exact ⟨p', f1, f2, Nat.lt_of_lt_of_le f5 h1.size, fun h7 => h1.blk (f3 h7) hne, fun h7 => h1.blk (f4 h7) hne⟩), (fun _ => ht6), k7, n4_5⟩
    · obtain rfl := Option.some.inj ho
      have ht6 := hall ⟨5, .data⟩ (by simp) rfl
      have d3 := k3 (hall ⟨3, .data⟩ (by simp) rfl)
      obtain ⟨p, e1, e2, e5, e3, e4⟩ := k5 ht6
      refine g_store_all 77 _ _ p (stc (farSt K.data.toList)) _ 77 (show v 5 = _ from e1) (show v 3 = _ from d3) (e3 hti) (zs77 _ (far_ok _)) (by rw [stc_length _ (far_ok _)]; rfl) (stc_one _) (fun w' h1 h2 => ?_)
      exact ⟨h1.below hB (by omega), Nat.le_trans hsz h1.size, keepE (by decide) k0, keepE (by decide) k1, keepE (by decide) k2, keepE (by decide) k3, (fun ht => by obtain ⟨p', f1, f2, f5, f3, f4⟩ := k4 ht; have hne : p' ≠ p := (by intro h; have := n4_5 ht ht6; apply this; rw [e1, f1, h]); exact ⟨p', f1, f2, Nat.lt_of_lt_of_le f5 h1.size, fun h7 => h1.blk (f3 h7) hne, fun h7 => h1.blk (f4 h7) hne⟩), (fun ht => ⟨p, e1, e2, Nat.lt_of_lt_of_le e5 h1.size, (fun h7 => by have h8 := setB_self t 7; rw [h7] at h8; cases h8), fun _ => h2⟩), k6, (fun _ => ht6), n4_5⟩
    · simp at ho
  · simp only [full, Act.put, List.setIfInBounds_toArray, List.set_cons_succ, List.set_cons_zero, Nat.zero_add, Nat.reduceAdd]
    intro t v wz hS ht
    obtain ⟨hB, hsz, k0, k1, k2, k3, k4, k5, k6, k7, n4_5⟩ := hS
    obtain ⟨p4, e4, g4, -, -, f4⟩ := k4 (ht 4 (by decide)); replace f4 := f4 (ht 6 (by decide))
    obtain ⟨p5, e5, g5, -, -, f5⟩ := k5 (ht 5 (by decide)); replace f5 := f5 (ht 7 (by decide))
    have n45 : p4 ≠ p5 := (by intro h; apply n4_5 (ht 4 (by decide)) (ht 5 (by decide)); rw [e4, e5, h])
    rw [e4]
    rw [e5]
    clear ht k0 k1 k2 k3 k4 k5 k6 k7 e4 e5 n4_5
    generalize v 0 = x0
    generalize v 1 = x1
    generalize v 2 = x2
    generalize v 3 = x3
    generalize v 6 = x6
    generalize v 7 = x7
    have hBz : Below w.heap.size w wz := hB4.trans (hB.mono (by omega))
    go_wp2_with fail
    go_ret
    exact ⟨p4, p5, rfl, by omega, by omega, f4, f5, hBz⟩
end Go.Proofs.YtdfpnicpcndkjaaDoor
