/- What the library's cmp.Or and Compare and the program's wide.Cmp answer; nothing that was there is changed. -/
import Derived.Test.YtpenicjlpiechaaDoorQWd
namespace Go.Proofs.YtpenicjlpiechaaDoor.Wd
set_option maxRecDepth 10000
open Go Go.RowKit
set_option linter.unusedVariables false
theorem comp40_any (x y : Int) (w : World) :
    Calls Tryd.prog 77 #[.int .i64 x, .int .i64 y] w fun e w' => e = .returned (.int .i64 (cmpI x y)) ∧ w' = w := by
  by_cases h1 : x < y
  · rw [cmpI, if_pos h1]
    go_enter Tryd.func77, Tryd.ntmps77
    go_wp2
    go_ret
    exact ⟨rfl, rfl⟩
  · by_cases h2 : y < x
    · rw [cmpI, if_neg h1, if_pos h2]
      go_enter Tryd.func77, Tryd.ntmps77
      go_wp2
      go_ret
      exact ⟨rfl, rfl⟩
    · rw [cmpI, if_neg h1, if_neg h2]
      go_enter Tryd.func77, Tryd.ntmps77
      go_wp2
      go_ret
      exact ⟨rfl, rfl⟩
theorem comp41_any (x y : Int) (w : World) :
    Calls Tryd.prog 78 #[.int .u64 x, .int .u64 y] w fun e w' => e = .returned (.int .i64 (cmpI x y)) ∧ w' = w := by
  by_cases h1 : x < y
  · rw [cmpI, if_pos h1]
    go_enter Tryd.func78, Tryd.ntmps78
    go_wp2
    go_ret
    exact ⟨rfl, rfl⟩
  · by_cases h2 : y < x
    · rw [cmpI, if_neg h1, if_pos h2]
      go_enter Tryd.func78, Tryd.ntmps78
      go_wp2
      go_ret
      exact ⟨rfl, rfl⟩
    · rw [cmpI, if_neg h1, if_neg h2]
      go_enter Tryd.func78, Tryd.ntmps78
      go_wp2
      go_ret
      exact ⟨rfl, rfl⟩
theorem or_any (x y : Int) (w : World) (b : Nat) (hb : Blk w b [.int .i64 x, .int .i64 y] 3) :
    Calls Tryd.prog 76 #[.slice (some ⟨b, 0, none⟩) 2 2] w fun e w' => e = .returned (.int .i64 (if x ≠ 0 then x else y)) ∧ w' = w := by
  have hc0 := hb.cell 0 _ rfl
  have hc1 := hb.cell 1 _ rfl
  clear hb
  go_enter Tryd.func76, Tryd.ntmps76
  go_wp2
  go_loop [5, 8] (fun v i => ∃ k : Nat, k ≤ 2 ∧ i = .int .i64 k ∧ (0 < k → x = 0) ∧ (1 < k → y = 0)) (fun _ i => 2 - (intOf i).toNat)
  case atStart => exact ⟨0, by omega, rfl, by omega, by omega⟩
  case round =>
    obtain ⟨k, hk, rfl, h1, h2⟩ := hrel
    have hkk : k = 0 ∨ k = 1 ∨ k = 2 := by omega
    rcases hkk with rfl | rfl | rfl
    · by_cases hx : x = 0
      · clear h1 h2
        go_wp2
        go_round
        case rel => exact ⟨1, by omega, by go_num, fun _ => hx, by omega⟩
        case measure => simp [intOf]
      · clear h1 h2
        go_wp2
        go_ret
        exact ⟨rfl, rfl⟩
    · have hx := h1 (by omega)
      clear h1 h2
      by_cases hy : y = 0
      · go_wp2
        go_round
        case rel => exact ⟨2, by omega, by go_num, fun _ => hx, fun _ => hy⟩
        case measure => simp [intOf]
      · go_wp2
        go_ret
        exact ⟨rfl, rfl⟩
    · have hx := h1 (by omega)
      have hy := h2 (by omega)
      clear h1 h2
      go_wp2
      go_ret
      exact ⟨rfl, rfl⟩
theorem cmp_wide (a b : Int) : (if cmpI (a / 18446744073709551616) (b / 18446744073709551616) ≠ 0 then cmpI (a / 18446744073709551616) (b / 18446744073709551616) else cmpI (a % 18446744073709551616) (b % 18446744073709551616)) = cmpI a b := by
  unfold cmpI
  repeat' split
  all_goals omega
theorem run_b2 (w : World) (x y : Int) : (Instr.buildSlice 130 2 #[(0, .int .i64 x), (1, .int .i64 y)]).run Tryd.prog w = .ok (.slice (some ⟨w.heap.size, 0, none⟩) 2 2) (w.alloc (.cells #[.int .i64 x, .int .i64 y] 3)) := by
  go_simp
theorem kf77 (vs : Array Value) (w : World) : (callFunc 77 vs).run Tryd.prog w = .ok (.enter 77 vs) w := by go_simp
theorem kf78 (vs : Array Value) (w : World) : (callFunc 78 vs).run Tryd.prog w = .ok (.enter 78 vs) w := by go_simp
theorem kf76 (vs : Array Value) (w : World) : (callFunc 76 vs).run Tryd.prog w = .ok (.enter 76 vs) w := by go_simp
section
variable {P : Program} {ops : Array Oper} {rest : List Oper} {a : Act} {w : World} {Q : Exit → Act → World → Prop} {dst : Option Tmp} {ty yt : TypeId} {pos : String} {aft : Array Edge} {gd : Option (Nat × Bool)} {K : Value → World → Prop}
theorem g_b2 (x y : Operand) (p q : Int) (hx : a.eval x = .int .i64 p) (hy : a.eval y = .int .i64 q)
    (hk : ∀ w', Turn w.heap.size w w' → Blk w' w.heap.size [.int .i64 p, .int .i64 q] 3 → K (.slice (some ⟨w.heap.size, 0, none⟩) 2 2) w') : gives Tryd.prog ⟨dst, .buildSlice 130 2 #[(0, x), (1, y)], ty, pos, aft, gd⟩ a w K := by
  obtain ⟨h1, h2⟩ := turn_alloc w [.int .i64 p, .int .i64 q] 3
  refine g_val _ _ ?_ (hk _ h1 h2)
  simp only [execOp, List.map_toArray, List.map_cons, List.map_nil, hx, hy, Sem.run_bind, run_b2, Result.andThen_ok, Sem.run_pure]
end
theorem cmp_any (a b : Int) (w : World) (R : Int) (hR : Hid (cmpI a b = R)) :
    Calls Tryd.prog 62 #[.agg (nl a).toArray, .agg (nl b).toArray] w fun e w' => e = .returned (.int .i64 R) ∧ Below w.heap.size w w' := by
  obtain ⟨ah, hah⟩ : ∃ h, a / 18446744073709551616 = h := ⟨_, rfl⟩
  obtain ⟨al, hal⟩ : ∃ l, a % 18446744073709551616 = l := ⟨_, rfl⟩
  obtain ⟨bh, hbh⟩ : ∃ h, b / 18446744073709551616 = h := ⟨_, rfl⟩
  obtain ⟨bl, hbl⟩ : ∃ l, b % 18446744073709551616 = l := ⟨_, rfl⟩
  have hRR : Hid ((if cmpI ah bh ≠ 0 then cmpI ah bh else cmpI al bl) = R) := by
    show _ = _
    rw [← hR.out, ← cmp_wide a b, hah, hal, hbh, hbl]
  replace hah : Hid _ := hah
  replace hal : Hid _ := hal
  replace hbh : Hid _ := hbh
  replace hbl : Hid _ := hbl
  clear hR
  go_enter Tryd.func62, Tryd.ntmps62
  go_wp2_with (first
    | ((with_reducible refine at_boxD 2 60 ?_); refine L_box 60 _ (nl a) rfl ?_; intro w1 t_ b_a; have l_a : w.heap.size ≤ w.heap.size := Nat.le_refl _; have hB : Below w.heap.size w w1 := t_.below (Below.refl _ _) (Nat.le_refl _); clear t_)
    | ((with_reducible refine at_boxD 3 60 ?_); refine L_box 60 _ (nl b) rfl ?_; intro w2 t_ b_b; have l_b : w.heap.size ≤ w1.heap.size := hB.size; have o_b := b_a.lt; replace b_a := t_.blk b_a (by omega); replace hB := t_.below hB l_b; clear t_)
    | ((with_reducible refine stop_region 1 ?_); intro X hX))
  refine hX.out ?_
  clear hX
  refine wp_region_inv (by kernel_rfl) (by kernel_rfl) (fun t v wx => Below w2.heap.size w2 wx ∧ (t 0 = true → v 0 = .pointer (some ⟨w.heap.size, 0, none⟩)) ∧ (t 1 = true → v 1 = .int .i64 ah) ∧ (t 2 = true → v 2 = .pointer (some ⟨w1.heap.size, 0, none⟩)) ∧ (t 3 = true → v 3 = .int .i64 bh) ∧ (t 4 = true → v 4 = .int .i64 (cmpI ah bh)) ∧ (t 5 = true → v 5 = .pointer (some ⟨w.heap.size, 1, none⟩)) ∧ (t 6 = true → v 6 = .int .u64 al) ∧ (t 7 = true → v 7 = .pointer (some ⟨w1.heap.size, 1, none⟩)) ∧ (t 8 = true → v 8 = .int .u64 bl) ∧ (t 9 = true → v 9 = .int .i64 (cmpI al bl)) ∧ (t 10 = true → ∃ p, v 10 = .slice (some ⟨p, 0, none⟩) 2 2 ∧ Blk wx p [.int .i64 (cmpI ah bh), .int .i64 (cmpI al bl)] 3) ∧ (t 11 = true → v 11 = .int .i64 R) ∧ (t 12 = true → v 12 = .int .i64 R)) ?_ ?_ ?_
  · exact ⟨(Below.refl _ _).drew, (fun h => by cases h), (fun h => by cases h), (fun h => by cases h), (fun h => by cases h), (fun h => by cases h), (fun h => by cases h), (fun h => by cases h), (fun h => by cases h), (fun h => by cases h), (fun h => by cases h), (fun h => by cases h), (fun h => by cases h), (fun h => by cases h)⟩
  · simp only [full, Act.put, List.setIfInBounds_toArray, List.set_cons_succ, List.set_cons_zero, Nat.zero_add, Nat.reduceAdd]
    intro i o ho t v wx hS hti hall
    obtain ⟨hB8, k0, k1, k2, k3, k4, k5, k6, k7, k8, k9, k10, k11, k12⟩ := hS
    rcases i with _ | _ | _ | _ | _ | _ | _ | _ | _ | _ | _ | _ | _ | i
    · obtain rfl := Option.some.inj ho
      refine g_field0 _ _ _ rfl ?_
      exact ⟨hB8, newE rfl, keepE (by decide) k1, keepE (by decide) k2, keepE (by decide) k3, keepE (by decide) k4, keepE (by decide) k5, keepE (by decide) k6, keepE (by decide) k7, keepE (by decide) k8, keepE (by decide) k9, (fun ht => by rw [setB_other _ _ _ (by decide)] at ht; rw [setV_other _ _ _ _ (by decide)]; exact k10 ht), keepE (by decide) k11, keepE (by decide) k12⟩
    · obtain rfl := Option.some.inj ho
      have d0 := k0 (hall ⟨0, .data⟩ (by simp) rfl)
      refine g_cell2 _ _ 0 _ 60 _ (show v 0 = _ from d0) (b_a.below hB8 b_a.lt) (nl0 _ _ hah.out) ?_
      exact ⟨hB8, keepE (by decide) k0, newE rfl, keepE (by decide) k2, keepE (by decide) k3, keepE (by decide) k4, keepE (by decide) k5, keepE (by decide) k6, keepE (by decide) k7, keepE (by decide) k8, keepE (by decide) k9, (fun ht => by rw [setB_other _ _ _ (by decide)] at ht; rw [setV_other _ _ _ _ (by decide)]; exact k10 ht), keepE (by decide) k11, keepE (by decide) k12⟩
    · obtain rfl := Option.some.inj ho
      refine g_field0 _ _ _ rfl ?_
      exact ⟨hB8, keepE (by decide) k0, keepE (by decide) k1, newE rfl, keepE (by decide) k3, keepE (by decide) k4, keepE (by decide) k5, keepE (by decide) k6, keepE (by decide) k7, keepE (by decide) k8, keepE (by decide) k9, (fun ht => by rw [setB_other _ _ _ (by decide)] at ht; rw [setV_other _ _ _ _ (by decide)]; exact k10 ht), keepE (by decide) k11, keepE (by decide) k12⟩
    · obtain rfl := Option.some.inj ho
      have d2 := k2 (hall ⟨2, .data⟩ (by simp) rfl)
      refine g_cell2 _ _ 0 _ 60 _ (show v 2 = _ from d2) (b_b.below hB8 b_b.lt) (nl0 _ _ hbh.out) ?_
      exact ⟨hB8, keepE (by decide) k0, keepE (by decide) k1, keepE (by decide) k2, newE rfl, keepE (by decide) k4, keepE (by decide) k5, keepE (by decide) k6, keepE (by decide) k7, keepE (by decide) k8, keepE (by decide) k9, (fun ht => by rw [setB_other _ _ _ (by decide)] at ht; rw [setV_other _ _ _ _ (by decide)]; exact k10 ht), keepE (by decide) k11, keepE (by decide) k12⟩
    · obtain rfl := Option.some.inj ho
      have d1 := k1 (hall ⟨1, .data⟩ (by simp) rfl)
      have d3 := k3 (hall ⟨3, .data⟩ (by simp) rfl)
      refine g_call 77 _ _ [.int .i64 ah, .int .i64 bh] (kf77 _ _) (by show [v 1, v 3] = _; rw [d1, d3]) ((comp40_any ah bh wx).mono ?_)
      rintro e w' ⟨rfl, rfl⟩
      exact ⟨_, rfl, hB8, keepE (by decide) k0, keepE (by decide) k1, keepE (by decide) k2, keepE (by decide) k3, newE rfl, keepE (by decide) k5, keepE (by decide) k6, keepE (by decide) k7, keepE (by decide) k8, keepE (by decide) k9, (fun ht => by rw [setB_other _ _ _ (by decide)] at ht; rw [setV_other _ _ _ _ (by decide)]; exact k10 ht), keepE (by decide) k11, keepE (by decide) k12⟩
    · obtain rfl := Option.some.inj ho
      refine g_field1 _ _ rfl ?_
      exact ⟨hB8, keepE (by decide) k0, keepE (by decide) k1, keepE (by decide) k2, keepE (by decide) k3, keepE (by decide) k4, newE rfl, keepE (by decide) k6, keepE (by decide) k7, keepE (by decide) k8, keepE (by decide) k9, (fun ht => by rw [setB_other _ _ _ (by decide)] at ht; rw [setV_other _ _ _ _ (by decide)]; exact k10 ht), keepE (by decide) k11, keepE (by decide) k12⟩
    · obtain rfl := Option.some.inj ho
      have d5 := k5 (hall ⟨5, .data⟩ (by simp) rfl)
      refine g_cell34 _ _ 1 _ 60 _ (show v 5 = _ from d5) (b_a.below hB8 b_a.lt) (nl1 _ _ hal.out) ?_
      exact ⟨hB8, keepE (by decide) k0, keepE (by decide) k1, keepE (by decide) k2, keepE (by decide) k3, keepE (by decide) k4, keepE (by decide) k5, newE rfl, keepE (by decide) k7, keepE (by decide) k8, keepE (by decide) k9, (fun ht => by rw [setB_other _ _ _ (by decide)] at ht; rw [setV_other _ _ _ _ (by decide)]; exact k10 ht), keepE (by decide) k11, keepE (by decide) k12⟩
    · obtain rfl := Option.some.inj ho
      refine g_field1 _ _ rfl ?_
      exact ⟨hB8, keepE (by decide) k0, keepE (by decide) k1, keepE (by decide) k2, keepE (by decide) k3, keepE (by decide) k4, keepE (by decide) k5, keepE (by decide) k6, newE rfl, keepE (by decide) k8, keepE (by decide) k9, (fun ht => by rw [setB_other _ _ _ (by decide)] at ht; rw [setV_other _ _ _ _ (by decide)]; exact k10 ht), keepE (by decide) k11, keepE (by decide) k12⟩
    · obtain rfl := Option.some.inj ho
      have d7 := k7 (hall ⟨7, .data⟩ (by simp) rfl)
      refine g_cell34 _ _ 1 _ 60 _ (show v 7 = _ from d7) (b_b.below hB8 b_b.lt) (nl1 _ _ hbl.out) ?_
      exact ⟨hB8, keepE (by decide) k0, keepE (by decide) k1, keepE (by decide) k2, keepE (by decide) k3, keepE (by decide) k4, keepE (by decide) k5, keepE (by decide) k6, keepE (by decide) k7, newE rfl, keepE (by decide) k9, (fun ht => by rw [setB_other _ _ _ (by decide)] at ht; rw [setV_other _ _ _ _ (by decide)]; exact k10 ht), keepE (by decide) k11, keepE (by decide) k12⟩
    · obtain rfl := Option.some.inj ho
      have d6 := k6 (hall ⟨6, .data⟩ (by simp) rfl)
      have d8 := k8 (hall ⟨8, .data⟩ (by simp) rfl)
      refine g_call 78 _ _ [.int .u64 al, .int .u64 bl] (kf78 _ _) (by show [v 6, v 8] = _; rw [d6, d8]) ((comp41_any al bl wx).mono ?_)
      rintro e w' ⟨rfl, rfl⟩
      exact ⟨_, rfl, hB8, keepE (by decide) k0, keepE (by decide) k1, keepE (by decide) k2, keepE (by decide) k3, keepE (by decide) k4, keepE (by decide) k5, keepE (by decide) k6, keepE (by decide) k7, keepE (by decide) k8, newE rfl, (fun ht => by rw [setB_other _ _ _ (by decide)] at ht; rw [setV_other _ _ _ _ (by decide)]; exact k10 ht), keepE (by decide) k11, keepE (by decide) k12⟩
    · obtain rfl := Option.some.inj ho
      have d4 := k4 (hall ⟨4, .data⟩ (by simp) rfl)
      have d9 := k9 (hall ⟨9, .data⟩ (by simp) rfl)
      refine g_b2 _ _ _ _ (show v 4 = _ from d4) (show v 9 = _ from d9) (fun w' h1 h2 => ?_)
      exact ⟨h1.below hB8 hB8.size, keepE (by decide) k0, keepE (by decide) k1, keepE (by decide) k2, keepE (by decide) k3, keepE (by decide) k4, keepE (by decide) k5, keepE (by decide) k6, keepE (by decide) k7, keepE (by decide) k8, keepE (by decide) k9, (fun _ => ⟨wx.heap.size, setV_self _ _ _, h2⟩), keepE (by decide) k11, keepE (by decide) k12⟩
    · obtain rfl := Option.some.inj ho
      have d10 := k10 (hall ⟨10, .data⟩ (by simp) rfl)
      obtain ⟨p, e1, e2⟩ := d10
      have ho := or_any (cmpI ah bh) (cmpI al bl) wx p e2
      rw [hRR.out] at ho
      refine g_call 76 _ _ [.slice (some ⟨p, 0, none⟩) 2 2] (kf76 _ _) (by show [v 10] = _; rw [e1]) (ho.mono ?_)
      rintro e w' ⟨rfl, rfl⟩
      exact ⟨_, rfl, hB8, keepE (by decide) k0, keepE (by decide) k1, keepE (by decide) k2, keepE (by decide) k3, keepE (by decide) k4, keepE (by decide) k5, keepE (by decide) k6, keepE (by decide) k7, keepE (by decide) k8, keepE (by decide) k9, (fun ht => by rw [setB_other _ _ _ (by decide)] at ht; rw [setV_other _ _ _ _ (by decide)]; exact k10 ht), newE rfl, keepE (by decide) k12⟩
    · obtain rfl := Option.some.inj ho
      have d11 := k11 (hall ⟨11, .data⟩ (by simp) rfl)
      refine g_assign _ _ (show v 11 = _ from d11) ?_
      exact ⟨hB8, keepE (by decide) k0, keepE (by decide) k1, keepE (by decide) k2, keepE (by decide) k3, keepE (by decide) k4, keepE (by decide) k5, keepE (by decide) k6, keepE (by decide) k7, keepE (by decide) k8, keepE (by decide) k9, (fun ht => by rw [setB_other _ _ _ (by decide)] at ht; rw [setV_other _ _ _ _ (by decide)]; exact k10 ht), keepE (by decide) k11, newE rfl⟩
    · simp at ho
  · simp only [full, Act.put, List.setIfInBounds_toArray, List.set_cons_succ, List.set_cons_zero, Nat.zero_add, Nat.reduceAdd]
    intro t v wz hS ht
    obtain ⟨hB8, k0, k1, k2, k3, k4, k5, k6, k7, k8, k9, k10, k11, k12⟩ := hS
    have d12 := k12 (ht 12 (by decide))
    rw [d12]
    clear ht d12 k0 k1 k2 k3 k4 k5 k6 k7 k8 k9 k10 k11 k12
    replace hB := hB.trans (hB8.mono hB.size)
    go_wp2_with fail
    go_ret
    exact ⟨rfl, hB⟩
end Go.Proofs.YtpenicjlpiechaaDoor.Wd
