/- ShaBranches' walk: the law returns true; nothing that was there has turned. -/
import Derived.Test.YthbnlidfgjgncaaDoorAwake
import Derived.OpenShut
namespace Go.Proofs.YthbnlidfgjgncaaDoor.shaBranches
open Go.RowKit
set_option linter.unusedVariables false
theorem append_list (a b : ByteArray) : (a ++ b).data.toList = a.data.toList ++ b.data.toList := by
  rw [ByteArray.data_append, Array.toList_append]
/-- A new block, with what lies in it till it is filled, and then. -/
def Cell2 (B : Nat) (s : St) (filled : Bool) (v : Value) (w : World) : Prop :=
  ∃ p, v = .pointer (some ⟨p, 0, none⟩) ∧ B ≤ p ∧ (filled = false → Blk w p (stc zeroSt) 35) ∧ (filled = true → Blk w p (stc s) 35)
theorem Cell2.below {B : Nat} {s : St} {f : Bool} {v : Value} {w w' : World} (h : Cell2 B s f v w) (hb : Below w.heap.size w w') : Cell2 B s f v w' := by
  obtain ⟨p, e1, e2, e3, e4⟩ := h
  exact ⟨p, e1, e2, fun h => (e3 h).below hb (e3 h).lt, fun h => (e4 h).below hb (e4 h).lt⟩
theorem Cell2.lt {B : Nat} {s : St} {f : Bool} {w : World} {p : Nat} (h : Cell2 B s f (.pointer (some ⟨p, 0, none⟩)) w) : p < w.heap.size := by
  obtain ⟨q, e1, e2, e3, e4⟩ := h
  obtain rfl : p = q := by injection e1 with e; injection e with e; injection e
  cases f with
  | true => exact (e4 rfl).lt
  | false => exact (e3 rfl).lt
theorem Cell2.turn {B : Nat} {s : St} {f : Bool} {v : Value} {w w' : World} {b : Nat} (h : Cell2 B s f v w) (ht : Turn b w w') (hne : v ≠ .pointer (some ⟨b, 0, none⟩)) : Cell2 B s f v w' := by
  obtain ⟨p, e1, e2, e3, e4⟩ := h
  have hp : p ≠ b := by rintro rfl; exact hne e1
  exact ⟨p, e1, e2, fun h => ht.blk (e3 h) hp, fun h => ht.blk (e4 h) hp⟩
theorem keepC {t : Nat → Bool} {v : Nat → Value} {i j l : Nat} {x : Value} {B : Nat} {s : St} {w w' : World} (hj : j ≠ i) (hl : l ≠ i) (hw : ∀ f, Cell2 B s f (v j) w → Cell2 B s f (v j) w') (h : t j = true → Cell2 B s (t l) (v j) w) :
    setB t i j = true → Cell2 B s (setB t i l) (setV v i x j) w' := by
  rw [setB_other _ _ _ hj, setB_other _ _ _ hl, setV_other _ _ _ _ hj]
  exact fun ht => hw _ (h ht)
set_option maxRecDepth 100000 in
set_option maxHeartbeats 4000000 in
theorem walk (a0 : ByteArray) (w0 : a0.size ≤ maxLen) (a1 : ByteArray) (w1 : a1.size ≤ maxLen) (a2 : ByteArray) (w2 : a2.size ≤ maxLen) (u : World) (hT : Tabs u) :
    Calls Tryd.prog 6 #[.string a0, .string a1, .string a2] u fun e w' => e = .returned (.bool true) ∧ Below u.heap.size u w' := by
  have hts := hT.size
  have v0 : a0.size ≤ 9223372036854775807 := w0
  have v1 : a1.size ≤ 9223372036854775807 := w1
  have v2 : a2.size ≤ 9223372036854775807 := w2
  clear w0 w1 w2
  by_cases g0 : 512 < a0.size
  · go_enter Tryd.func6, Tryd.ntmps6
    go_wp2_with fail
    refine (awake_any _ hT).mono ?_; rintro e w1 ⟨rfl, hb1⟩
    go_wp2_with fail
    go_ret
    exact ⟨rfl, hb1⟩
  by_cases g1 : 512 < a1.size
  · go_enter Tryd.func6, Tryd.ntmps6
    go_wp2_with fail
    refine (awake_any _ hT).mono ?_; rintro e w1 ⟨rfl, hb1⟩
    go_wp2_with fail
    go_ret
    exact ⟨rfl, hb1⟩
  by_cases g2 : 512 < a2.size
  · go_enter Tryd.func6, Tryd.ntmps6
    go_wp2_with fail
    refine (awake_any _ hT).mono ?_; rintro e w1 ⟨rfl, hb1⟩
    go_wp2_with fail
    go_ret
    exact ⟨rfl, hb1⟩
  have l0 : a0.size ≤ 512 := by omega
  have l1 : a1.size ≤ 512 := by omega
  have l2 : a2.size ≤ 512 := by omega
  clear v0 v1 v2 g0 g1 g2
  obtain ⟨AB, hAB⟩ : ∃ AB, a0 ++ a1 = AB := ⟨_, rfl⟩
  obtain ⟨AC, hAC⟩ : ∃ AC, a0 ++ a2 = AC := ⟨_, rfl⟩
  obtain ⟨ABC, hABC⟩ : ∃ ABC, AB ++ a2 = ABC := ⟨_, rfl⟩
  have lAB : AB.size = a0.size + a1.size := by rw [← hAB, ByteArray.size_append]
  have lAC : AC.size = a0.size + a2.size := by rw [← hAC, ByteArray.size_append]
  have lABC : ABC.size = AB.size + a2.size := by rw [← hABC, ByteArray.size_append]
  obtain ⟨Sa, hSa⟩ : ∃ s, more zeroSt a0.data.toList = s := ⟨_, rfl⟩
  obtain ⟨Sab, hSab⟩ : ∃ s, more Sa a1.data.toList = s := ⟨_, rfl⟩
  obtain ⟨Sac, hSac⟩ : ∃ s, more Sa a2.data.toList = s := ⟨_, rfl⟩
  obtain ⟨Sabc, hSabc⟩ : ∃ s, more Sab a2.data.toList = s := ⟨_, rfl⟩
  have ra : Rep a0.data.toList Sa := by rw [← hSa]; exact rep_more [] _ _ rep_zero
  have rab : Rep AB.data.toList Sab := by rw [← hSab, ← hAB, append_list]; exact rep_more _ _ _ ra
  have rac : Rep AC.data.toList Sac := by rw [← hSac, ← hAC, append_list]; exact rep_more _ _ _ ra
  have rabc : Rep ABC.data.toList Sabc := by rw [← hSabc, ← hABC, append_list]; exact rep_more _ _ _ rab
  have oa := ra.ok
  have oab := rab.ok
  have oac := rac.ok
  have oabc := rabc.ok
  have na : Sa.n = a0.size := by rw [ra.n, Lib.size_eq]
  have nab : Sab.n = AB.size := by rw [rab.n, Lib.size_eq]
  have nac : Sac.n = AC.size := by rw [rac.n, Lib.size_eq]
  have nabc : Sabc.n = ABC.size := by rw [rabc.n, Lib.size_eq]
  have KA : Hid (key Sa = sum a0.data.toList) := by show _ = _; rw [key_rep _ _ ra, sum_dig]
  have KAB : Hid (key Sab = sum AB.data.toList) := by show _ = _; rw [key_rep _ _ rab, sum_dig]
  have KAC : Hid (key Sac = sum AC.data.toList) := by show _ = _; rw [key_rep _ _ rac, sum_dig]
  have KABC : Hid (key Sabc = sum ABC.data.toList) := by show _ = _; rw [key_rep _ _ rabc, sum_dig]
  have HAB : Hid (a0 ++ a1 = AB) := hAB
  have HAC : Hid (a0 ++ a2 = AC) := hAC
  have HABC : Hid (AB ++ a2 = ABC) := hABC
  have HSa : Hid (more zeroSt a0.data.toList = Sa) := hSa
  have HSab : Hid (more Sa a1.data.toList = Sab) := hSab
  have HSac : Hid (more Sa a2.data.toList = Sac) := hSac
  have HSabc : Hid (more Sab a2.data.toList = Sabc) := hSabc
  have ia : Sa.n ≤ 512 := by omega
  have iab : Sab.n ≤ 1024 := by omega
  have iac : Sac.n ≤ 1024 := by omega
  have iabc : Sabc.n ≤ 1536 := by omega
  have jAB : AB.size ≤ 1024 := by omega
  have jAC : AC.size ≤ 1024 := by omega
  have jABC : ABC.size ≤ 1536 := by omega
  clear hAB hAC hABC hSa hSab hSac hSabc ra rab rac rabc na nab nac nabc lAB lAC lABC
  go_enter Tryd.func6, Tryd.ntmps6
  go_wp2_with fail
  refine (awake_any _ hT).mono ?_; rintro e w1 ⟨rfl, hb1⟩
  go_wp2_with fail
  have m1 := hb1.size
  refine (new_any w1).mono ?_; rintro e w0 ⟨rfl, hb0⟩
  have hB0 := hb1.trans (hb0.mono m1)
  have m0 := hB0.size
  go_wp2_with fail
  refine (more_any zeroSt a0 zeroSt_ok w0 (hT.below hB0 hts) (by show 0 + _ ≤ _; omega)).mono ?_
  rw [HSa.out]
  rintro e w2 ⟨rfl, hb2⟩
  have hB2 := hB0.trans (hb2.mono m0)
  have m2 := hB2.size
  go_wp2_with (first
    | ((with_reducible refine at_alloc 35 ?_); refine L_alloc 35 _ zero35 ?_; intro w3 h3 hb3)
    | ((with_reducible refine at_store 35 ?_); refine L_store_all 35 _ _ w2.heap.size (stc Sa) _ 35 rfl rfl hb3 (zs35 Sa oa) (by rw [stc_length Sa oa]; rfl) (stc_one _) ?_; intro w4 h4 hb4))
  have hB4 : Below u.heap.size u w4 := h4.below (h3.below hB2 m2) m2
  have m4 := hB4.size
  have n4 := hb4.lt
  simp only [Act.put, List.setIfInBounds_toArray, List.set_cons_zero, List.set_cons_succ]
  clear h3 h4 hb3 hb2 hb1 hb0 hB0 hB2
  refine wp_region_inv (by kernel_rfl) (by kernel_rfl) (fun t v wx => Below w4.heap.size w4 wx ∧ (t 0 = true → v 0 = .agg (stc Sa).toArray) ∧ (t 1 = true → v 1 = .string a1) ∧ (t 2 = true → v 2 = .agg (stc Sab).toArray) ∧ (t 3 = true → v 3 = .agg (stc Sa).toArray) ∧ (t 4 = true → v 4 = .string a2) ∧ (t 5 = true → v 5 = .agg (stc Sac).toArray) ∧ (t 6 = true → Cell2 w4.heap.size Sab (t 8) (v 6) wx) ∧ (t 7 = true → Cell2 w4.heap.size Sac (t 9) (v 7) wx) ∧ (t 6 = true → t 7 = true → v 6 ≠ v 7) ∧ (t 8 = true → t 6 = true ∧ t 7 = true) ∧ (t 9 = true → t 7 = true)) ?_ ?_ ?_
  · exact ⟨(Below.refl _ _).drew, (fun h => by cases h), (fun h => by cases h), (fun h => by cases h), (fun h => by cases h), (fun h => by cases h), (fun h => by cases h), (fun h => by cases h), (fun h => by cases h), (fun h => by cases h), (fun h => by cases h), (fun h => by cases h)⟩
  · simp only [full, Act.put, List.setIfInBounds_toArray, List.set_cons_succ, List.set_cons_zero, Nat.zero_add, Nat.reduceAdd]
    intro i o ho t v wx hS hti hall
    obtain ⟨hB, k0, k1, k2, k3, k4, k5, k6, k7, k8, k9, k10⟩ := hS
    have hnw : w4.heap.size ≤ wx.heap.size := hB.size
    have hTx : Tabs wx := (hT.below hB4 hts).below hB (by omega)
    rcases i with _ | _ | _ | _ | _ | _ | _ | _ | _ | _ | i
    · obtain rfl := Option.some.inj ho
      refine g_load_all 35 _ w2.heap.size (stc Sa) 35 _ rfl (hb4.below hB n4) Tryd.underlying35 rfl (zs35 Sa oa) ?_
      exact ⟨hB, newE rfl, keepE (by decide) k1, keepE (by decide) k2, keepE (by decide) k3, keepE (by decide) k4, keepE (by decide) k5, keepC (by decide) (by decide) (fun f h => h) k6, keepC (by decide) (by decide) (fun f h => h) k7, k8, k9, k10⟩
    · obtain rfl := Option.some.inj ho
      refine g_move _ _ rfl ?_
      exact ⟨hB, keepE (by decide) k0, newE rfl, keepE (by decide) k2, keepE (by decide) k3, keepE (by decide) k4, keepE (by decide) k5, keepC (by decide) (by decide) (fun f h => h) k6, keepC (by decide) (by decide) (fun f h => h) k7, k8, k9, k10⟩
    · obtain rfl := Option.some.inj ho
      have d0 := k0 (hall ⟨0, .data⟩ (by simp) rfl)
      have d1 := k1 (hall ⟨1, .data⟩ (by simp) rfl)
      refine g_call 18 _ _ [.agg (stc Sa).toArray, .string a1] (cf18 _ _) (by show [v 0, v 1] = _; rw [d0, d1]) ((more_any Sa a1 oa wx hTx (by omega)).mono ?_)
      rw [HSab.out]
      rintro e w' ⟨rfl, hb⟩
      exact ⟨_, rfl, hB.trans (hb.mono hnw), keepE (by decide) k0, keepE (by decide) k1, newE rfl, keepE (by decide) k3, keepE (by decide) k4, keepE (by decide) k5, keepC (by decide) (by decide) (fun f h => h.below hb) k6, keepC (by decide) (by decide) (fun f h => h.below hb) k7, k8, k9, k10⟩
    · obtain rfl := Option.some.inj ho
      refine g_load_all 35 _ w2.heap.size (stc Sa) 35 _ rfl (hb4.below hB n4) Tryd.underlying35 rfl (zs35 Sa oa) ?_
      exact ⟨hB, keepE (by decide) k0, keepE (by decide) k1, keepE (by decide) k2, newE rfl, keepE (by decide) k4, keepE (by decide) k5, keepC (by decide) (by decide) (fun f h => h) k6, keepC (by decide) (by decide) (fun f h => h) k7, k8, k9, k10⟩
    · obtain rfl := Option.some.inj ho
      refine g_move _ _ rfl ?_
      exact ⟨hB, keepE (by decide) k0, keepE (by decide) k1, keepE (by decide) k2, keepE (by decide) k3, newE rfl, keepE (by decide) k5, keepC (by decide) (by decide) (fun f h => h) k6, keepC (by decide) (by decide) (fun f h => h) k7, k8, k9, k10⟩
    · obtain rfl := Option.some.inj ho
      have d0 := k3 (hall ⟨3, .data⟩ (by simp) rfl)
      have d1 := k4 (hall ⟨4, .data⟩ (by simp) rfl)
      refine g_call 18 _ _ [.agg (stc Sa).toArray, .string a2] (cf18 _ _) (by show [v 3, v 4] = _; rw [d0, d1]) ((more_any Sa a2 oa wx hTx (by omega)).mono ?_)
      rw [HSac.out]
      rintro e w' ⟨rfl, hb⟩
      exact ⟨_, rfl, hB.trans (hb.mono hnw), keepE (by decide) k0, keepE (by decide) k1, keepE (by decide) k2, keepE (by decide) k3, keepE (by decide) k4, newE rfl, keepC (by decide) (by decide) (fun f h => h.below hb) k6, keepC (by decide) (by decide) (fun f h => h.below hb) k7, k8, k9, k10⟩
    · obtain rfl := Option.some.inj ho
      refine g_alloc 35 _ zero35 (fun w' h1 h2 => ?_)
      have hb : Below wx.heap.size wx w' := h1.below (Below.refl _ _) (Nat.le_refl _)
      refine ⟨h1.below hB hnw, keepE (by decide) k0, keepE (by decide) k1, keepE (by decide) k2, keepE (by decide) k3, keepE (by decide) k4, keepE (by decide) k5, fun _ => ?_, keepC (by decide) (by decide) (fun f h => h.below hb) k7, fun _ h7 => ?_, fun h8 => ?_, k10⟩
      · rw [setV_self, setB_other _ _ _ (by decide)]
        refine ⟨wx.heap.size, rfl, hnw, fun _ => h2, fun h8 => ?_⟩
        have h6 := (k9 h8).1
        rw [hti] at h6
        cases h6
      · rw [setV_self, setV_other _ _ _ _ (by decide)]
        rw [setB_other _ _ _ (by decide)] at h7
        intro e
        have h9 := k7 h7
        rw [← e] at h9
        exact absurd h9.lt (by omega)
      · have h6 := (k9 h8).1
        rw [hti] at h6
        cases h6
    · obtain rfl := Option.some.inj ho
      refine g_alloc 35 _ zero35 (fun w' h1 h2 => ?_)
      have hb : Below wx.heap.size wx w' := h1.below (Below.refl _ _) (Nat.le_refl _)
      refine ⟨h1.below hB hnw, keepE (by decide) k0, keepE (by decide) k1, keepE (by decide) k2, keepE (by decide) k3, keepE (by decide) k4, keepE (by decide) k5, keepC (by decide) (by decide) (fun f h => h.below hb) k6, fun _ => ?_, fun h6 _ => ?_, fun h8 => ?_, fun _ => setB_self _ _⟩
      · rw [setV_self, setB_other _ _ _ (by decide)]
        refine ⟨wx.heap.size, rfl, hnw, fun _ => h2, fun h9 => ?_⟩
        have h7 := k10 h9
        rw [hti] at h7
        cases h7
      · rw [setV_self, setV_other _ _ _ _ (by decide)]
        rw [setB_other _ _ _ (by decide)] at h6
        intro e
        have h9 := k6 h6
        rw [e] at h9
        exact absurd h9.lt (by omega)
      · have h7 := (k9 h8).2
        rw [hti] at h7
        cases h7
    · obtain rfl := Option.some.inj ho
      have d2 := k2 (hall ⟨2, .data⟩ (by simp) rfl)
      have t6 := hall ⟨6, .data⟩ (by simp) rfl
      have t7 := hall ⟨7, .phase⟩ (by simp) rfl
      obtain ⟨p, e1, e2, e3, e4⟩ := k6 t6
      refine g_store_all 35 _ _ p (stc Sab) _ 35 (show v 6 = _ from e1) (show v 2 = _ from d2) (e3 hti) (zs35 Sab oab) (by rw [stc_length Sab oab]; rfl) (stc_one _) (fun w' h1 h2 => ?_)
      refine ⟨h1.below hB e2, keepE (by decide) k0, keepE (by decide) k1, keepE (by decide) k2, keepE (by decide) k3, keepE (by decide) k4, keepE (by decide) k5, fun _ => ?_, keepC (by decide) (by decide) (fun f h => h.turn h1 (by rw [← e1]; exact fun e => k8 t6 t7 e.symm)) k7, k8, fun _ => ⟨t6, t7⟩, k10⟩
      exact ⟨p, e1, e2, fun h8 => (by rw [setB_self] at h8; cases h8), fun _ => h2⟩
    · obtain rfl := Option.some.inj ho
      have d5 := k5 (hall ⟨5, .data⟩ (by simp) rfl)
      have t7 := hall ⟨7, .data⟩ (by simp) rfl
      have t6 := hall ⟨6, .phase⟩ (by simp) rfl
      obtain ⟨q, e1, e2, e3, e4⟩ := k7 t7
      refine g_store_all 35 _ _ q (stc Sac) _ 35 (show v 7 = _ from e1) (show v 5 = _ from d5) (e3 hti) (zs35 Sac oac) (by rw [stc_length Sac oac]; rfl) (stc_one _) (fun w' h1 h2 => ?_)
      refine ⟨h1.below hB e2, keepE (by decide) k0, keepE (by decide) k1, keepE (by decide) k2, keepE (by decide) k3, keepE (by decide) k4, keepE (by decide) k5, keepC (by decide) (by decide) (fun f h => h.turn h1 (by rw [← e1]; exact k8 t6 t7)) k6, fun _ => ?_, k8, k9, fun _ => t7⟩
      exact ⟨q, e1, e2, fun h9 => (by rw [setB_self] at h9; cases h9), fun _ => h2⟩
    · simp at ho
  · simp only [full, Act.put, List.setIfInBounds_toArray, List.set_cons_succ, List.set_cons_zero, Nat.zero_add, Nat.reduceAdd]
    intro t v w5 hS ht
    obtain ⟨hB, -, -, -, -, -, -, k6, k7, -, -, -⟩ := hS
    obtain ⟨p, e1, e2, -, e4⟩ := k6 (ht 6 (by decide))
    obtain ⟨q, f1, f2, -, f4⟩ := k7 (ht 7 (by decide))
    have d8 := e4 (ht 8 (by decide))
    have d9 := f4 (ht 9 (by decide))
    have d7 := hb4.below hB n4
    rw [e1, f1]
    generalize v 0 = x0
    generalize v 1 = x1
    generalize v 2 = x2
    generalize v 3 = x3
    generalize v 4 = x4
    generalize v 5 = x5
    have hB5 : Below u.heap.size u w5 := hB4.trans (hB.mono m4)
    have hTx : ∀ w', Below w5.heap.size w5 w' → Tabs w' := fun w' h => (hT.below hB5 hts).below h (by have := hB5.size; omega)
    clear k6 k7 e1 e4 f1 f4 ht hB
    go_wp2_with (first
      | ((with_reducible refine stop_list 34 ?_); intro X hX))
    refine hX.out ?_
    refine wp_list_text (by kernel_rfl) [.agg (stc Sa).toArray, .agg (bc (sum a0.data.toList)).toArray, .string a0, .agg (bc (sum a0.data.toList)).toArray, .bool true, .bool true, .agg (stc Sab).toArray, .agg (bc (sum AB.data.toList)).toArray, .string a0, .string a1, .string AB, .agg (bc (sum AB.data.toList)).toArray, .bool true, .bool true, .bool true, .agg (stc Sac).toArray, .agg (bc (sum AC.data.toList)).toArray, .string a0, .string a2, .string AC, .agg (bc (sum AC.data.toList)).toArray, .bool true, .bool true, .bool true, .agg (stc Sab).toArray, .string a2, .agg (stc Sabc).toArray, .agg (bc (sum ABC.data.toList)).toArray, .string a0, .string a1, .string AB, .string a2, .string ABC, .agg (bc (sum ABC.data.toList)).toArray, .bool true, .bool true, .bool true, .agg (stc Sa).toArray, .agg (bc (sum a0.data.toList)).toArray, .string a0, .agg (bc (sum a0.data.toList)).toArray, .bool true, .bool true, .bool true] (by rfl) (fun w' => Below w5.heap.size w5 w') (Below.refl _ _) ?_ ?_
    · simp only [fullL, Act.put, List.setIfInBounds_toArray, List.set_cons_succ, List.set_cons_zero]
      refine ⟨?_, ?_, ?_, ?_, ?_, ?_, ?_, ?_, ?_, ?_, ?_, ?_, ?_, ?_, ?_, ?_, ?_, ?_, ?_, ?_, ?_, ?_, ?_, ?_, ?_, ?_, ?_, ?_, ?_, ?_, ?_, ?_, ?_, ?_, ?_, ?_, ?_, ?_, ?_, ?_, ?_, ?_, ?_, ?_, trivial⟩
      · exact fun w hw => gw rfl (g_load_all 35 _ (w2.heap.size) _ 35 _ rfl (d7.below hw d7.lt) Tryd.underlying35 rfl (zs35 Sa oa) ⟨rfl, hw⟩)
      · exact fun w hw => gw rfl (g_call 20 _ _ [.agg (stc Sa).toArray] (cf20 _ _) rfl (mono_val hw (by have h := key_any Sa oa w (hTx w hw) (by omega); rw [KA.out] at h; exact h)))
      · exact fun w hw => gw rfl (g_move _ _ rfl ⟨rfl, hw⟩)
      · exact fun w hw => gw rfl (g_call 11 _ _ [.string a0] (cf11 _ _) rfl (mono_val hw (sum_any a0 w (hTx w hw) (by omega))))
      · exact fun w hw => gw rfl (g_eql 24 5 _ _ 32 (sum a0.data.toList) (sum a0.data.toList) rfl rfl guard24 Tryd.underlying24 Tryd.underlying5 Tryd.sizeOf5 Tryd.isAgg5 (sum_length _) (sum_length _) ⟨by simp, hw⟩)
      · exact fun w hw => gw rfl (g_move _ _ rfl ⟨rfl, hw⟩)
      · exact fun w hw => gw rfl (g_load_all 35 _ (p) _ 35 _ rfl (d8.below hw d8.lt) Tryd.underlying35 rfl (zs35 Sab oab) ⟨rfl, hw⟩)
      · exact fun w hw => gw rfl (g_call 20 _ _ [.agg (stc Sab).toArray] (cf20 _ _) rfl (mono_val hw (by have h := key_any Sab oab w (hTx w hw) (by omega); rw [KAB.out] at h; exact h)))
      · exact fun w hw => gw rfl (g_move _ _ rfl ⟨rfl, hw⟩)
      · exact fun w hw => gw rfl (g_move _ _ rfl ⟨rfl, hw⟩)
      · exact fun w hw => gw rfl (g_sadd 9 _ _ a0 a1 AB rfl rfl HAB.out (by omega) ⟨rfl, hw⟩)
      · exact fun w hw => gw rfl (g_call 11 _ _ [.string AB] (cf11 _ _) rfl (mono_val hw (sum_any AB w (hTx w hw) (by omega))))
      · exact fun w hw => gw rfl (g_eql 24 5 _ _ 32 (sum AB.data.toList) (sum AB.data.toList) rfl rfl guard24 Tryd.underlying24 Tryd.underlying5 Tryd.sizeOf5 Tryd.isAgg5 (sum_length _) (sum_length _) ⟨by simp, hw⟩)
      · exact fun w hw => gw rfl (g_pick _ _ _ _ rfl rfl ⟨rfl, hw⟩)
      · exact fun w hw => gw rfl (g_move _ _ rfl ⟨rfl, hw⟩)
      · exact fun w hw => gw rfl (g_load_all 35 _ (q) _ 35 _ rfl (d9.below hw d9.lt) Tryd.underlying35 rfl (zs35 Sac oac) ⟨rfl, hw⟩)
      · exact fun w hw => gw rfl (g_call 20 _ _ [.agg (stc Sac).toArray] (cf20 _ _) rfl (mono_val hw (by have h := key_any Sac oac w (hTx w hw) (by omega); rw [KAC.out] at h; exact h)))
      · exact fun w hw => gw rfl (g_move _ _ rfl ⟨rfl, hw⟩)
      · exact fun w hw => gw rfl (g_move _ _ rfl ⟨rfl, hw⟩)
      · exact fun w hw => gw rfl (g_sadd 9 _ _ a0 a2 AC rfl rfl HAC.out (by omega) ⟨rfl, hw⟩)
      · exact fun w hw => gw rfl (g_call 11 _ _ [.string AC] (cf11 _ _) rfl (mono_val hw (sum_any AC w (hTx w hw) (by omega))))
      · exact fun w hw => gw rfl (g_eql 24 5 _ _ 32 (sum AC.data.toList) (sum AC.data.toList) rfl rfl guard24 Tryd.underlying24 Tryd.underlying5 Tryd.sizeOf5 Tryd.isAgg5 (sum_length _) (sum_length _) ⟨by simp, hw⟩)
      · exact fun w hw => gw rfl (g_pick _ _ _ _ rfl rfl ⟨rfl, hw⟩)
      · exact fun w hw => gw rfl (g_move _ _ rfl ⟨rfl, hw⟩)
      · exact fun w hw => gw rfl (g_load_all 35 _ (p) _ 35 _ rfl (d8.below hw d8.lt) Tryd.underlying35 rfl (zs35 Sab oab) ⟨rfl, hw⟩)
      · exact fun w hw => gw rfl (g_move _ _ rfl ⟨rfl, hw⟩)
      · exact fun w hw => gw rfl (g_call 18 _ _ [.agg (stc Sab).toArray, .string a2] (cf18 _ _) rfl (mono_val hw (by have h := more_any Sab a2 oab w (hTx w hw) (by omega); rw [HSabc.out] at h; exact h)))
      · exact fun w hw => gw rfl (g_call 20 _ _ [.agg (stc Sabc).toArray] (cf20 _ _) rfl (mono_val hw (by have h := key_any Sabc oabc w (hTx w hw) (by omega); rw [KABC.out] at h; exact h)))
      · exact fun w hw => gw rfl (g_move _ _ rfl ⟨rfl, hw⟩)
      · exact fun w hw => gw rfl (g_move _ _ rfl ⟨rfl, hw⟩)
      · exact fun w hw => gw rfl (g_sadd 9 _ _ a0 a1 AB rfl rfl HAB.out (by omega) ⟨rfl, hw⟩)
      · exact fun w hw => gw rfl (g_move _ _ rfl ⟨rfl, hw⟩)
      · exact fun w hw => gw rfl (g_sadd 9 _ _ AB a2 ABC rfl rfl HABC.out (by omega) ⟨rfl, hw⟩)
      · exact fun w hw => gw rfl (g_call 11 _ _ [.string ABC] (cf11 _ _) rfl (mono_val hw (sum_any ABC w (hTx w hw) (by omega))))
      · exact fun w hw => gw rfl (g_eql 24 5 _ _ 32 (sum ABC.data.toList) (sum ABC.data.toList) rfl rfl guard24 Tryd.underlying24 Tryd.underlying5 Tryd.sizeOf5 Tryd.isAgg5 (sum_length _) (sum_length _) ⟨by simp, hw⟩)
      · exact fun w hw => gw rfl (g_pick _ _ _ _ rfl rfl ⟨rfl, hw⟩)
      · exact fun w hw => gw rfl (g_move _ _ rfl ⟨rfl, hw⟩)
      · exact fun w hw => gw rfl (g_load_all 35 _ (w2.heap.size) _ 35 _ rfl (d7.below hw d7.lt) Tryd.underlying35 rfl (zs35 Sa oa) ⟨rfl, hw⟩)
      · exact fun w hw => gw rfl (g_call 20 _ _ [.agg (stc Sa).toArray] (cf20 _ _) rfl (mono_val hw (by have h := key_any Sa oa w (hTx w hw) (by omega); rw [KA.out] at h; exact h)))
      · exact fun w hw => gw rfl (g_move _ _ rfl ⟨rfl, hw⟩)
      · exact fun w hw => gw rfl (g_call 11 _ _ [.string a0] (cf11 _ _) rfl (mono_val hw (sum_any a0 w (hTx w hw) (by omega))))
      · exact fun w hw => gw rfl (g_eql 24 5 _ _ 32 (sum a0.data.toList) (sum a0.data.toList) rfl rfl guard24 Tryd.underlying24 Tryd.underlying5 Tryd.sizeOf5 Tryd.isAgg5 (sum_length _) (sum_length _) ⟨by simp, hw⟩)
      · exact fun w hw => gw rfl (g_pick _ _ _ _ rfl rfl ⟨rfl, hw⟩)
      · exact fun w hw => gw rfl (g_assign _ _ rfl ⟨rfl, hw⟩)
    · simp only [fullL, Act.put, List.setIfInBounds_toArray, List.set_cons_succ, List.set_cons_zero]
      intro w8 hw
      go_wp2_with fail
      go_ret
      exact ⟨rfl, hB5.trans (hw.mono hB5.size)⟩
end Go.Proofs.YthbnlidfgjgncaaDoor.shaBranches
