/- What the closure of the program's mac.With answers: a text's tag by the key whose states are kept. -/
import Derived.Test.YtdfpnicpcndkjaaDoorMacW2
namespace Go.Proofs.YtdfpnicpcndkjaaDoor
set_option maxRecDepth 10000
open Go.RowKit
set_option linter.unusedVariables false

set_option maxRecDepth 100000 in
set_option maxHeartbeats 1000000 in
theorem maker_any (K : List UInt8) (T : ByteArray) (hTs : T.size ≤ 274877906944) (p q : Nat) (w : World) (hT : Tabs w) (bp : Blk w p (stc (nearSt K)) 77) (bq : Blk w q (stc (farSt K)) 77) :
    Calls Tryd.prog 38 #[.string T, .pointer (some ⟨p, 0, none⟩), .pointer (some ⟨q, 0, none⟩)] w fun e w' => e = .returned (.agg (bc (tag K T.data.toList)).toArray) ∧ Below w.heap.size w w' := by
  have hts := hT.size
  have np := bp.lt
  have nq := bq.lt
  have hTz := Lib.size_eq T
  obtain ⟨R, hR⟩ : ∃ R, tag K T.data.toList = R := ⟨_, rfl⟩
  rw [hR]
  have HRL : Hid (R.length = 32) := by show _ = _; rw [← hR]; exact tag_length _ _
  obtain ⟨S, hS⟩ : ∃ S, more (nearSt K) T.data.toList = S := ⟨_, rfl⟩
  have so : S.Ok := by rw [← hS]; exact more_ok _ _ (near_ok K)
  have sn : S.n = 64 + T.size := by rw [← hS, more_n, near_n, hTz]
  obtain ⟨D, hD⟩ : ∃ D, key S = D := ⟨_, rfl⟩
  have HD : Hid (D.length = 32) := by show _ = _; rw [← hD]; exact key_length _ so
  have HR : Hid (key (more (farSt K) D) = R) := by show _ = _; rw [← hD, ← hS, far_key, hR]
  have HN : Hid ((farSt K).n + (⟨D.toArray⟩ : ByteArray).size ≤ 1099511627776) := by
    show _ ≤ _
    rw [far_n, Lib.size_eq]
    show 64 + D.length ≤ _
    have := HD.out; omega
  have HM : Hid ((more (farSt K) D).n ≤ 549755813888) := by show _ ≤ _; rw [more_n, far_n]; have := HD.out; omega
  have HS : Hid (more (nearSt K) T.data.toList = S) := hS
  have HDK : Hid (key S = D) := hD
  have HSN : Hid (S.n = 64 + T.size) := sn
  have HN1 : Hid ((nearSt K).n + T.size ≤ 1099511627776) := by show _ ≤ _; rw [near_n]; omega
  clear hR hS hD sn hTz
  go_enter Tryd.func38, Tryd.ntmps38
  go_wp2_with (first
    | ((with_reducible refine at_alloc 23 ?_); refine L_alloc 23 _ zero23 ?_; intro w1 h1 hb1)
    | ((with_reducible refine at_load 77 ?_); refine L_load_all 77 _ p _ 77 _ rfl (h1.blk bp (by omega)) Tryd.underlying77 rfl (zs77 _ (near_ok K)) ?_))
  have n1 : w.heap.size < w1.heap.size := hb1.lt
  have hB1 : Below w.heap.size w w1 := h1.below (Below.refl _ _) (Nat.le_refl _)
  have cq := h1.blk bq (by omega)
  clear h1
  refine (more_any (nearSt K) T (near_ok K) w1 (hT.below hB1 hts) HN1.out).mono ?_; rw [HS.out]; rintro e w2 ⟨rfl, hb2⟩
  have n2 := hb2.size
  have hB2 : Below w.heap.size w w2 := hB1.trans (hb2.mono (by omega))
  replace cq := cq.below hb2 (by omega)
  have c2 := hb1.below hb2 (by omega)
  clear hB1 hb1 hb2
  go_wp2_with fail
  refine (key_any S so w2 (hT.below hB2 hts) (by have := HSN.out; omega)).mono ?_; rw [HDK.out]; rintro e w3 ⟨rfl, hb3⟩
  have n3 := hb3.size
  have hB3 : Below w.heap.size w w3 := hB2.trans (hb3.mono (by omega))
  replace cq := cq.below hb3 (by omega)
  replace c2 := c2.below hb3 (by omega)
  clear hB2 hb3
  go_wp2_with (first
    | ((with_reducible refine at_alloc 23 ?_); refine L_alloc 23 _ zero23 ?_; intro w4 h4 hb4)
    | ((with_reducible refine at_store 23 ?_); refine L_store_all 23 _ _ w3.heap.size (bc D) _ 23 rfl rfl hb4 (zk23 D HD.out) (by rw [bc_length, HD.out]; rfl) (bc_one _) ?_; intro w5 h5 hb5))
  have hB5 : Below w.heap.size w w5 := h5.below (h4.below hB3 (by omega)) (by omega)
  replace cq := h5.blk (h4.blk cq (by omega)) (by omega)
  replace c2 := h5.blk (h4.blk c2 (by omega)) (by omega)
  have n5 := hb5.lt
  clear h4 h5 hb4 hB3
  refine wp_region_inv (by kernel_rfl) (by kernel_rfl) (fun t v wx => Below (w.heap.size) w5 wx ∧ w5.heap.size ≤ wx.heap.size ∧ Blk wx (w3.heap.size) (bc D) 23 ∧ (t 0 = true → v 0 = .agg (stc (farSt K)).toArray) ∧ (t 1 = true → v 1 = .slice (some ⟨w3.heap.size, 0, none⟩) 32 32) ∧ (t 2 = true → v 2 = .string ⟨D.toArray⟩) ∧ (t 3 = true → v 3 = .agg (stc (more (farSt K) D)).toArray) ∧ (t 4 = true → v 4 = .agg (bc R).toArray) ∧ ((t 5 = false → Blk wx (w.heap.size) (bc (List.replicate 32 0)) 23) ∧ (t 5 = true → Blk wx (w.heap.size) (bc R) 23) ∧ (t 5 = true → v 5 = undef))) ?_ ?_ ?_
  · exact ⟨(Below.refl _ _).drew, Nat.le_refl _, hb5, (fun h => by cases h), (fun h => by cases h), (fun h => by cases h), (fun h => by cases h), (fun h => by cases h), ⟨fun _ => c2, (fun h => by cases h), (fun h => by cases h)⟩⟩
  · simp only [full, Act.put, List.setIfInBounds_toArray, List.set_cons_succ, List.set_cons_zero, Nat.zero_add, Nat.reduceAdd]
    intro i o ho t v wx hS hti hall
    obtain ⟨hB, hsz, q0, k0, k1, k2, k3, k4, k5⟩ := hS
    have hnw : w.heap.size ≤ wx.heap.size := Nat.le_trans (by omega) hsz
    have hTx : Tabs wx := (hT.below hB5 hts).below hB (by omega)
    rcases i with _ | _ | _ | _ | _ | _ | i
    · obtain rfl := Option.some.inj ho
      refine g_load_all 77 _ (q) (stc (farSt K)) _ _ rfl ((cq.below hB (by omega))) Tryd.underlying77 rfl (zs77 _ (far_ok K)) ?_
      exact ⟨hB, hsz, q0, newE rfl, keepE (by decide) k1, keepE (by decide) k2, keepE (by decide) k3, keepE (by decide) k4, k5⟩
    · obtain rfl := Option.some.inj ho
      have hsl := run_slice_all wx w3.heap.size 0 32 23 5 Tryd.underlying23 Tryd.sizeOf5
      refine g_val (.slice (some ⟨w3.heap.size, 0, none⟩) 32 32) wx (by go_simp) ?_
      exact ⟨hB, hsz, q0, keepE (by decide) k0, newE rfl, keepE (by decide) k2, keepE (by decide) k3, keepE (by decide) k4, k5⟩
    · obtain rfl := Option.some.inj ho
      have d1 := k1 (hall ⟨1, .data⟩ (by simp) rfl)
      have hcv := blk_string (o := 0) (n := 32) (cap := 32) q0 D HD.out (by rw [List.drop_zero, List.take_of_length_le (by rw [bc_length]; have := HD.out; omega)])
      refine g_val (.string ⟨D.toArray⟩) wx (by rw [d1]; go_simp) ?_
      exact ⟨hB, hsz, q0, keepE (by decide) k0, keepE (by decide) k1, newE rfl, keepE (by decide) k3, keepE (by decide) k4, k5⟩
    · obtain rfl := Option.some.inj ho
      have d0 := k0 (hall ⟨0, .data⟩ (by simp) rfl)
      have d2 := k2 (hall ⟨2, .data⟩ (by simp) rfl)
      refine g_call 39 _ _ [.agg (stc (farSt K)).toArray, .string ⟨D.toArray⟩] (kf39 _ _) (by show [v 0, v 2] = _; rw [d0, d2]; (try rfl)) ((more_any (farSt K) ⟨D.toArray⟩ (far_ok K) wx hTx HN.out).mono ?_)
      rintro e w' ⟨rfl, hb⟩
      exact ⟨_, rfl, hB.trans (hb.mono hnw), Nat.le_trans hsz hb.size, q0.below hb q0.lt, keepE (by decide) k0, keepE (by decide) k1, keepE (by decide) k2, newE rfl, keepE (by decide) k4, ⟨fun h7 => (k5.1 h7).below hb (k5.1 h7).lt, fun h7 => (k5.2.1 h7).below hb (k5.2.1 h7).lt, k5.2.2⟩⟩
    · obtain rfl := Option.some.inj ho
      have d3 := k3 (hall ⟨3, .data⟩ (by simp) rfl)
      refine g_call 40 _ _ [.agg (stc (more (farSt K) D)).toArray] (kf40 _ _) (by show [v 3] = _; rw [d3]; (try rfl)) ((key_any (more (farSt K) D) (more_ok _ _ (far_ok K)) wx hTx HM.out).mono ?_)
      rw [HR.out]
      rintro e w' ⟨rfl, hb⟩
      exact ⟨_, rfl, hB.trans (hb.mono hnw), Nat.le_trans hsz hb.size, q0.below hb q0.lt, keepE (by decide) k0, keepE (by decide) k1, keepE (by decide) k2, keepE (by decide) k3, newE rfl, ⟨fun h7 => (k5.1 h7).below hb (k5.1 h7).lt, fun h7 => (k5.2.1 h7).below hb (k5.2.1 h7).lt, k5.2.2⟩⟩
    · obtain rfl := Option.some.inj ho
      have d4 := k4 (hall ⟨4, .data⟩ (by simp) rfl)
      refine g_store_all 23 _ _ w.heap.size (bc R) _ 23 rfl (show v 4 = _ from d4) (k5.1 hti) (zk23 R HRL.out) (by rw [bc_length, HRL.out]; rfl) (bc_one _) (fun w' h1 h2 => ?_)
      exact ⟨h1.below hB (by omega), Nat.le_trans hsz h1.size, h1.blk q0 (by omega), keepE (by decide) k0, keepE (by decide) k1, keepE (by decide) k2, keepE (by decide) k3, keepE (by decide) k4, ⟨(fun h7 => by have h8 := setB_self t 5; rw [h7] at h8; cases h8), fun _ => h2, newE rfl⟩⟩
    · simp at ho
  · simp only [full, Act.put, List.setIfInBounds_toArray, List.set_cons_succ, List.set_cons_zero, Nat.zero_add, Nat.reduceAdd]
    intro t v wz hS ht
    obtain ⟨hB, hsz, q0, k0, k1, k2, k3, k4, k5⟩ := hS
    have f5 := k5.2.1 (ht 5 (by decide))
    clear ht k0 k1 k2 k3 k4 k5  
    generalize v 0 = x0
    generalize v 1 = x1
    generalize v 2 = x2
    generalize v 3 = x3
    generalize v 4 = x4
    generalize v 5 = x5
    have hBz : Below w.heap.size w wz := hB5.trans (hB.mono (by omega))
    go_wp2_with fail
    (try simp only [Exit.inBlock, Exit.then])
    exact bodyPost_ret (results_blk rfl w.heap.size (bc R) _ rfl f5 Tryd.underlying23 rfl (zk23 R HRL.out)) rfl ⟨rfl, hBz⟩
end Go.Proofs.YtdfpnicpcndkjaaDoor
