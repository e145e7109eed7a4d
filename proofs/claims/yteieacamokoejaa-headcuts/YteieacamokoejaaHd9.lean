/- What the program's head.Write answers: a packet's bytes. -/
import Derived.Test.YteieacamokoejaaHd8
namespace Go.Proofs.Yteieacamokoejaa
open Go Go.RowKit
set_option linter.unusedVariables false

theorem all_take (l : List (Int × ByteArray)) (j : Nat) (h : j < l.length) (h1 : (l.take j).all fmay = true) (h2 : fmay l[j] = true) : (l.take (j + 1)).all fmay = true := by
  rw [List.take_succ_eq_append_getElem h, List.all_append, h1]; simpa using h2
theorem all_not (l : List (Int × ByteArray)) (j : Nat) (h : j < l.length) (h2 : fmay l[j] = false) : l.all fmay = false := by
  rw [List.all_eq_false]
  exact ⟨l[j], List.getElem_mem h, by simp [h2]⟩
theorem flat_take (l : List (Int × ByteArray)) (j : Nat) (h : j < l.length) : (l.take (j + 1)).flatMap fb = (l.take j).flatMap fb ++ fb l[j] := by
  rw [List.take_succ_eq_append_getElem h, List.flatMap_append]; simp
theorem flat_le : ∀ (l : List (Int × ByteArray)), (∀ f ∈ l, FMays f) → (l.flatMap fb).length ≤ 1007 * l.length
  | [], _ => by simp
  | f :: l, h => by
    have a := flat_le l (fun g hg => h g (by simp [hg]))
    have b := fb_le f
    have c := (h f (by simp)).2
    rw [List.flatMap_cons, List.length_append, List.length_cons]
    omega
theorem ba_app (L : List UInt8) (l : List UInt8) : (⟨L.toArray⟩ : ByteArray) ++ ⟨l.toArray⟩ = ⟨(L ++ l).toArray⟩ := by
  apply ByteArray.ext; rw [ByteArray.data_append]; apply Array.toList_inj.1; simp
set_option maxRecDepth 10000 in
set_option maxHeartbeats 2000000 in
theorem write_0 (h : Hd) (l : List (Int × ByteArray)) (ao : Option Addr) (cap : Nat) (w : World) (hi : InH h) (hn : l.length ≤ 140737488355328) (hf : Fis w (.slice ao l.length cap) l) (hp : Hid (pt h = (ByteArray.empty, 2))) : Calls Try.prog 21 #[.agg (hc h).toArray, .slice ao l.length cap] w fun e w' => e = .returned (.tuple #[.string ByteArray.empty, .int .i64 2]) ∧ Below w.heap.size w w' := by
  go_enter Try.func21, Try.ntmps21
  go_wp2_with (first
    | ((with_reducible refine at_boxD 2 26 ?_); refine L_box 26 _ (hc (h)) rfl ?_; intro w1 t_ b_h; have l_hB_h : w.heap.size ≤ w.heap.size := Nat.le_refl _; have hB : Below w.heap.size w w1 := t_.below (Below.refl _ _) (Nat.le_refl _); clear t_; (try simp only [Act.put, List.setIfInBounds_toArray, List.set_cons_zero, List.set_cons_succ]))
    | ((with_reducible refine at_loadD 14 26 ?_); refine L_give (by rfl) (g_load_all 26 _ (w.heap.size) (hc (h)) 26 _ rfl (b_h) Try.underlying26 rfl (szH hz) ?_); (try simp only [Act.put, List.setIfInBounds_toArray, List.set_cons_zero, List.set_cons_succ]))
    | ((with_reducible refine at_callD 15 ?_); refine L_give (by rfl) (g_call 12 _ _ [.agg (hc (h)).toArray] (kf12 _ _) rfl ((hput_any h ByteArray.empty 2 w1 hi hp).mono ?_)); rintro e w2 ⟨rfl, t_⟩; refine ⟨_, rfl, ?_⟩; replace b_h := b_h.below t_ b_h.lt; replace hB := hB.trans (t_.mono hB.size); clear t_; (try simp only [Act.put, List.setIfInBounds_toArray, List.set_cons_zero, List.set_cons_succ]))
    | ((with_reducible refine at_binD 19 ?_); refine L_give (by rfl) (g_ine 28 _ _ .i64 _ _ true rfl rfl (by decide) ?_); (try simp only [Act.put, List.setIfInBounds_toArray, List.set_cons_zero, List.set_cons_succ])))
  go_ret2
  exact ⟨rfl, hB⟩
set_option maxRecDepth 10000 in
set_option maxHeartbeats 2000000 in
theorem write_1 (h : Hd) (l : List (Int × ByteArray)) (ao : Option Addr) (cap : Nat) (w : World) (hi : InH h) (hn : l.length ≤ 140737488355328) (hf : Fis w (.slice ao l.length cap) l) (T : ByteArray) (hp : Hid (pt h = (T, 0))) (hno : Hid (l.all fmay = false)) : Calls Try.prog 21 #[.agg (hc h).toArray, .slice ao l.length cap] w fun e w' => e = .returned (.tuple #[.string ByteArray.empty, .int .i64 2]) ∧ Below w.heap.size w w' := by
  go_enter Try.func21, Try.ntmps21
  go_wp2_with (first
    | ((with_reducible refine at_boxD 2 26 ?_); refine L_box 26 _ (hc (h)) rfl ?_; intro w1 t_ b_h; have l_hB_h : w.heap.size ≤ w.heap.size := Nat.le_refl _; have hB : Below w.heap.size w w1 := t_.below (Below.refl _ _) (Nat.le_refl _); clear t_; (try simp only [Act.put, List.setIfInBounds_toArray, List.set_cons_zero, List.set_cons_succ]))
    | ((with_reducible refine at_loadD 14 26 ?_); refine L_give (by rfl) (g_load_all 26 _ (w.heap.size) (hc (h)) 26 _ rfl (b_h) Try.underlying26 rfl (szH hz) ?_); (try simp only [Act.put, List.setIfInBounds_toArray, List.set_cons_zero, List.set_cons_succ]))
    | ((with_reducible refine at_callD 15 ?_); refine L_give (by rfl) (g_call 12 _ _ [.agg (hc (h)).toArray] (kf12 _ _) rfl ((hput_any h T 0 w1 hi hp).mono ?_)); rintro e w2 ⟨rfl, t_⟩; refine ⟨_, rfl, ?_⟩; replace b_h := b_h.below t_ b_h.lt; replace hB := hB.trans (t_.mono hB.size); clear t_; (try simp only [Act.put, List.setIfInBounds_toArray, List.set_cons_zero, List.set_cons_succ]))
    | ((with_reducible refine at_binD 19 ?_); refine L_give (by rfl) (g_ine 28 _ _ .i64 _ _ false rfl rfl (by decide) ?_); (try simp only [Act.put, List.setIfInBounds_toArray, List.set_cons_zero, List.set_cons_succ])))
  go_loopw [23] (fun i wr => ∃ j : Nat, j ≤ l.length ∧ i = .int .i64 j ∧ Hid ((l.take j).all fmay = true) ∧ Below w.heap.size w wr) (fun i _ => l.length - (intOf i).toNat)
  case atStart => exact ⟨0, Nat.zero_le _, rfl, rfl, hB⟩
  case round =>
    clear b_h hB
    obtain ⟨j, hj, rfl, ha, hB⟩ := hrel
    by_cases hlt : j < l.length
    · have hfw := hf.below hB
      obtain ⟨ao2, cap2, hv2, hcs⟩ := hfw
      obtain ⟨b, oo, hao, c0, c1⟩ := hcs j hlt
      obtain rfl : ao2 = ao := by injection hv2 with hv2; exact hv2.symm
      subst hao
      clear hcs hv2
      have hltI : (j : Int) < ((l.length : Nat) : Int) := by omega
      obtain ⟨f, hfE⟩ : ∃ f, l[j] = f := ⟨_, rfl⟩
      rw [hfE] at c0 c1
      replace hfE : Hid (l[j] = f) := hfE
      by_cases hm : fmay f = true
      · replace hm : Hid (fmay f = true) := hm
        go_wp2_with (first
          | ((with_reducible refine at_binD 24 ?_); refine L_give (by rfl) (g_ilss 3 _ _ .i64 _ _ true rfl rfl (decide_eq_true hltI) ?_); (try simp only [Act.put, List.setIfInBounds_toArray, List.set_cons_zero, List.set_cons_succ]))
          | ((with_reducible refine at_ixD 25 ?_); refine L_give (by rfl) (g_ixF _ _ b oo _ _ j rfl rfl hlt ?_); (try simp only [Act.put, List.setIfInBounds_toArray, List.set_cons_zero, List.set_cons_succ]))
          | ((with_reducible refine at_loadD 26 48 ?_); refine L_give (by rfl) (g_loadF _ b (oo + j * 2) f rfl c0 c1 ?_); (try simp only [Act.put, List.setIfInBounds_toArray, List.set_cons_zero, List.set_cons_succ]))
          | ((with_reducible refine at_allocD 9 48 ?_); refine L_alloc 48 (fc (fz)) zeroF ?_; intro wr1 t_ b_f; have l_hB_f : _ ≤ wr.heap.size := hB.size; replace hB := t_.below hB l_hB_f; clear t_; (try simp only [Act.put, List.setIfInBounds_toArray, List.set_cons_zero, List.set_cons_succ]))
          | ((with_reducible refine at_storeX 9 48 ?_); refine L_store_all 48 _ _ (wr.heap.size) (fc (f)) _ 48 rfl rfl b_f (szF fz) rfl (one_fc _) ?_; clear b_f; intro wr2 t_ b_f; replace hB := t_.below hB l_hB_f; clear t_)
          | ((with_reducible refine at_loadD 27 48 ?_); refine L_give (by rfl) (g_load_all 48 _ (wr.heap.size) (fc (f)) 48 _ rfl (b_f) Try.underlying48 rfl (szF fz) ?_); (try simp only [Act.put, List.setIfInBounds_toArray, List.set_cons_zero, List.set_cons_succ]))
          | ((with_reducible refine at_callD 28 ?_); refine L_give (by rfl) (g_call 36 _ _ [.agg (fc (f)).toArray] (kf36 _ _) rfl ((fmay_any f true wr2 hm).mono ?_)); rintro e wr3 ⟨rfl, t_⟩; refine ⟨_, rfl, ?_⟩; replace b_f := b_f.below t_ b_f.lt; replace hB := hB.trans (t_.mono hB.size); clear t_; (try simp only [Act.put, List.setIfInBounds_toArray, List.set_cons_zero, List.set_cons_succ])))
        go_roundw
        case rel => exact ⟨j + 1, hlt, by go_num, all_take l j hlt ha.out (by rw [hfE.out]; exact hm.out), hB⟩
        case measure => simp [intOf]; omega
      · replace hm : Hid (fmay f = false) := by show _ = _; simpa using hm
        go_wp2_with (first
          | ((with_reducible refine at_binD 24 ?_); refine L_give (by rfl) (g_ilss 3 _ _ .i64 _ _ true rfl rfl (decide_eq_true hltI) ?_); (try simp only [Act.put, List.setIfInBounds_toArray, List.set_cons_zero, List.set_cons_succ]))
          | ((with_reducible refine at_ixD 25 ?_); refine L_give (by rfl) (g_ixF _ _ b oo _ _ j rfl rfl hlt ?_); (try simp only [Act.put, List.setIfInBounds_toArray, List.set_cons_zero, List.set_cons_succ]))
          | ((with_reducible refine at_loadD 26 48 ?_); refine L_give (by rfl) (g_loadF _ b (oo + j * 2) f rfl c0 c1 ?_); (try simp only [Act.put, List.setIfInBounds_toArray, List.set_cons_zero, List.set_cons_succ]))
          | ((with_reducible refine at_allocD 9 48 ?_); refine L_alloc 48 (fc (fz)) zeroF ?_; intro wr1 t_ b_f; have l_hB_f : _ ≤ wr.heap.size := hB.size; replace hB := t_.below hB l_hB_f; clear t_; (try simp only [Act.put, List.setIfInBounds_toArray, List.set_cons_zero, List.set_cons_succ]))
          | ((with_reducible refine at_storeX 9 48 ?_); refine L_store_all 48 _ _ (wr.heap.size) (fc (f)) _ 48 rfl rfl b_f (szF fz) rfl (one_fc _) ?_; clear b_f; intro wr2 t_ b_f; replace hB := t_.below hB l_hB_f; clear t_)
          | ((with_reducible refine at_loadD 27 48 ?_); refine L_give (by rfl) (g_load_all 48 _ (wr.heap.size) (fc (f)) 48 _ rfl (b_f) Try.underlying48 rfl (szF fz) ?_); (try simp only [Act.put, List.setIfInBounds_toArray, List.set_cons_zero, List.set_cons_succ]))
          | ((with_reducible refine at_callD 28 ?_); refine L_give (by rfl) (g_call 36 _ _ [.agg (fc (f)).toArray] (kf36 _ _) rfl ((fmay_any f false wr2 hm).mono ?_)); rintro e wr3 ⟨rfl, t_⟩; refine ⟨_, rfl, ?_⟩; replace b_f := b_f.below t_ b_f.lt; replace hB := hB.trans (t_.mono hB.size); clear t_; (try simp only [Act.put, List.setIfInBounds_toArray, List.set_cons_zero, List.set_cons_succ])))
        go_ret2
        exact ⟨rfl, hB⟩
    · have hltI : ¬ (j : Int) < ((l.length : Nat) : Int) := by omega
      have hall : Hid (l.all fmay = true) := by have k := ha.out; rw [List.take_of_length_le (by omega)] at k; exact k
      clear ha
      exact absurd hall.out (by rw [hno.out]; decide)
set_option maxRecDepth 10000 in
set_option maxHeartbeats 2000000 in
theorem write_2 (h : Hd) (l : List (Int × ByteArray)) (ao : Option Addr) (cap : Nat) (w : World) (hi : InH h) (hn : l.length ≤ 140737488355328) (hf : Fis w (.slice ao l.length cap) l) (T : ByteArray) (hp : Hid (pt h = (T, 0))) (hal : Hid (l.all fmay = true)) (h16 : (16 : Int) < ((l.length : Nat) : Int)) : Calls Try.prog 21 #[.agg (hc h).toArray, .slice ao l.length cap] w fun e w' => e = .returned (.tuple #[.string ByteArray.empty, .int .i64 4]) ∧ Below w.heap.size w w' := by
  go_enter Try.func21, Try.ntmps21
  go_wp2_with (first
    | ((with_reducible refine at_boxD 2 26 ?_); refine L_box 26 _ (hc (h)) rfl ?_; intro w1 t_ b_h; have l_hB_h : w.heap.size ≤ w.heap.size := Nat.le_refl _; have hB : Below w.heap.size w w1 := t_.below (Below.refl _ _) (Nat.le_refl _); clear t_; (try simp only [Act.put, List.setIfInBounds_toArray, List.set_cons_zero, List.set_cons_succ]))
    | ((with_reducible refine at_loadD 14 26 ?_); refine L_give (by rfl) (g_load_all 26 _ (w.heap.size) (hc (h)) 26 _ rfl (b_h) Try.underlying26 rfl (szH hz) ?_); (try simp only [Act.put, List.setIfInBounds_toArray, List.set_cons_zero, List.set_cons_succ]))
    | ((with_reducible refine at_callD 15 ?_); refine L_give (by rfl) (g_call 12 _ _ [.agg (hc (h)).toArray] (kf12 _ _) rfl ((hput_any h T 0 w1 hi hp).mono ?_)); rintro e w2 ⟨rfl, t_⟩; refine ⟨_, rfl, ?_⟩; replace b_h := b_h.below t_ b_h.lt; replace hB := hB.trans (t_.mono hB.size); clear t_; (try simp only [Act.put, List.setIfInBounds_toArray, List.set_cons_zero, List.set_cons_succ]))
    | ((with_reducible refine at_binD 19 ?_); refine L_give (by rfl) (g_ine 28 _ _ .i64 _ _ false rfl rfl (by decide) ?_); (try simp only [Act.put, List.setIfInBounds_toArray, List.set_cons_zero, List.set_cons_succ])))
  go_loopw [23] (fun i wr => ∃ j : Nat, j ≤ l.length ∧ i = .int .i64 j ∧ Hid ((l.take j).all fmay = true) ∧ Below w.heap.size w wr) (fun i _ => l.length - (intOf i).toNat)
  case atStart => exact ⟨0, Nat.zero_le _, rfl, rfl, hB⟩
  case round =>
    clear b_h hB
    obtain ⟨j, hj, rfl, ha, hB⟩ := hrel
    by_cases hlt : j < l.length
    · have hfw := hf.below hB
      obtain ⟨ao2, cap2, hv2, hcs⟩ := hfw
      obtain ⟨b, oo, hao, c0, c1⟩ := hcs j hlt
      obtain rfl : ao2 = ao := by injection hv2 with hv2; exact hv2.symm
      subst hao
      clear hcs hv2
      have hltI : (j : Int) < ((l.length : Nat) : Int) := by omega
      obtain ⟨f, hfE⟩ : ∃ f, l[j] = f := ⟨_, rfl⟩
      rw [hfE] at c0 c1
      replace hfE : Hid (l[j] = f) := hfE
      by_cases hm : fmay f = true
      · replace hm : Hid (fmay f = true) := hm
        go_wp2_with (first
          | ((with_reducible refine at_binD 24 ?_); refine L_give (by rfl) (g_ilss 3 _ _ .i64 _ _ true rfl rfl (decide_eq_true hltI) ?_); (try simp only [Act.put, List.setIfInBounds_toArray, List.set_cons_zero, List.set_cons_succ]))
          | ((with_reducible refine at_ixD 25 ?_); refine L_give (by rfl) (g_ixF _ _ b oo _ _ j rfl rfl hlt ?_); (try simp only [Act.put, List.setIfInBounds_toArray, List.set_cons_zero, List.set_cons_succ]))
          | ((with_reducible refine at_loadD 26 48 ?_); refine L_give (by rfl) (g_loadF _ b (oo + j * 2) f rfl c0 c1 ?_); (try simp only [Act.put, List.setIfInBounds_toArray, List.set_cons_zero, List.set_cons_succ]))
          | ((with_reducible refine at_allocD 9 48 ?_); refine L_alloc 48 (fc (fz)) zeroF ?_; intro wr1 t_ b_f; have l_hB_f : _ ≤ wr.heap.size := hB.size; replace hB := t_.below hB l_hB_f; clear t_; (try simp only [Act.put, List.setIfInBounds_toArray, List.set_cons_zero, List.set_cons_succ]))
          | ((with_reducible refine at_storeX 9 48 ?_); refine L_store_all 48 _ _ (wr.heap.size) (fc (f)) _ 48 rfl rfl b_f (szF fz) rfl (one_fc _) ?_; clear b_f; intro wr2 t_ b_f; replace hB := t_.below hB l_hB_f; clear t_)
          | ((with_reducible refine at_loadD 27 48 ?_); refine L_give (by rfl) (g_load_all 48 _ (wr.heap.size) (fc (f)) 48 _ rfl (b_f) Try.underlying48 rfl (szF fz) ?_); (try simp only [Act.put, List.setIfInBounds_toArray, List.set_cons_zero, List.set_cons_succ]))
          | ((with_reducible refine at_callD 28 ?_); refine L_give (by rfl) (g_call 36 _ _ [.agg (fc (f)).toArray] (kf36 _ _) rfl ((fmay_any f true wr2 hm).mono ?_)); rintro e wr3 ⟨rfl, t_⟩; refine ⟨_, rfl, ?_⟩; replace b_f := b_f.below t_ b_f.lt; replace hB := hB.trans (t_.mono hB.size); clear t_; (try simp only [Act.put, List.setIfInBounds_toArray, List.set_cons_zero, List.set_cons_succ])))
        go_roundw
        case rel => exact ⟨j + 1, hlt, by go_num, all_take l j hlt ha.out (by rw [hfE.out]; exact hm.out), hB⟩
        case measure => simp [intOf]; omega
      · replace hm : Hid (fmay f = false) := by show _ = _; simpa using hm
        go_wp2_with (first
          | ((with_reducible refine at_binD 24 ?_); refine L_give (by rfl) (g_ilss 3 _ _ .i64 _ _ true rfl rfl (decide_eq_true hltI) ?_); (try simp only [Act.put, List.setIfInBounds_toArray, List.set_cons_zero, List.set_cons_succ]))
          | ((with_reducible refine at_ixD 25 ?_); refine L_give (by rfl) (g_ixF _ _ b oo _ _ j rfl rfl hlt ?_); (try simp only [Act.put, List.setIfInBounds_toArray, List.set_cons_zero, List.set_cons_succ]))
          | ((with_reducible refine at_loadD 26 48 ?_); refine L_give (by rfl) (g_loadF _ b (oo + j * 2) f rfl c0 c1 ?_); (try simp only [Act.put, List.setIfInBounds_toArray, List.set_cons_zero, List.set_cons_succ]))
          | ((with_reducible refine at_allocD 9 48 ?_); refine L_alloc 48 (fc (fz)) zeroF ?_; intro wr1 t_ b_f; have l_hB_f : _ ≤ wr.heap.size := hB.size; replace hB := t_.below hB l_hB_f; clear t_; (try simp only [Act.put, List.setIfInBounds_toArray, List.set_cons_zero, List.set_cons_succ]))
          | ((with_reducible refine at_storeX 9 48 ?_); refine L_store_all 48 _ _ (wr.heap.size) (fc (f)) _ 48 rfl rfl b_f (szF fz) rfl (one_fc _) ?_; clear b_f; intro wr2 t_ b_f; replace hB := t_.below hB l_hB_f; clear t_)
          | ((with_reducible refine at_loadD 27 48 ?_); refine L_give (by rfl) (g_load_all 48 _ (wr.heap.size) (fc (f)) 48 _ rfl (b_f) Try.underlying48 rfl (szF fz) ?_); (try simp only [Act.put, List.setIfInBounds_toArray, List.set_cons_zero, List.set_cons_succ]))
          | ((with_reducible refine at_callD 28 ?_); refine L_give (by rfl) (g_call 36 _ _ [.agg (fc (f)).toArray] (kf36 _ _) rfl ((fmay_any f false wr2 hm).mono ?_)); rintro e wr3 ⟨rfl, t_⟩; refine ⟨_, rfl, ?_⟩; replace b_f := b_f.below t_ b_f.lt; replace hB := hB.trans (t_.mono hB.size); clear t_; (try simp only [Act.put, List.setIfInBounds_toArray, List.set_cons_zero, List.set_cons_succ])))
        exact absurd (all_not l j hlt (by rw [hfE.out]; exact hm.out)) (by rw [hal.out]; decide)
    · have hltI : ¬ (j : Int) < ((l.length : Nat) : Int) := by omega
      have hall : Hid (l.all fmay = true) := by have k := ha.out; rw [List.take_of_length_le (by omega)] at k; exact k
      clear ha
      go_wp2_with (first
        | ((with_reducible refine at_binD 24 ?_); refine L_give (by rfl) (g_ilss 3 _ _ .i64 _ _ false rfl rfl (decide_eq_false hltI) ?_); (try simp only [Act.put, List.setIfInBounds_toArray, List.set_cons_zero, List.set_cons_succ]))
        | ((with_reducible refine at_binD 33 ?_); refine L_give (by rfl) (g_igtr 3 _ _ .i64 _ _ true rfl rfl (decide_eq_true h16) ?_); (try simp only [Act.put, List.setIfInBounds_toArray, List.set_cons_zero, List.set_cons_succ])))
      go_ret2
      exact ⟨rfl, hB⟩
set_option maxRecDepth 10000 in
set_option maxHeartbeats 2000000 in
theorem write_3 (h : Hd) (l : List (Int × ByteArray)) (ao : Option Addr) (cap : Nat) (w : World) (hi : InH h) (hn : l.length ≤ 140737488355328) (hf : Fis w (.slice ao l.length cap) l) (T : ByteArray) (hT : T.size = 48) (HT : Hid (T.size = 48)) (hp : Hid (pt h = (T, 0))) (hal : Hid (l.all fmay = true)) (h16 : ¬ (16 : Int) < ((l.length : Nat) : Int)) (h16N : Hid (l.length ≤ 16)) : Calls Try.prog 21 #[.agg (hc h).toArray, .slice ao l.length cap] w fun e w' => e = .returned (.tuple #[.string ⟨(T.data.toList ++ l.flatMap fb).toArray⟩, .int .i64 0]) ∧ Below w.heap.size w w' := by
  go_enter Try.func21, Try.ntmps21
  go_wp2_with (first
    | ((with_reducible refine at_boxD 2 26 ?_); refine L_box 26 _ (hc (h)) rfl ?_; intro w1 t_ b_h; have l_hB_h : w.heap.size ≤ w.heap.size := Nat.le_refl _; have hB : Below w.heap.size w w1 := t_.below (Below.refl _ _) (Nat.le_refl _); clear t_; (try simp only [Act.put, List.setIfInBounds_toArray, List.set_cons_zero, List.set_cons_succ]))
    | ((with_reducible refine at_loadD 14 26 ?_); refine L_give (by rfl) (g_load_all 26 _ (w.heap.size) (hc (h)) 26 _ rfl (b_h) Try.underlying26 rfl (szH hz) ?_); (try simp only [Act.put, List.setIfInBounds_toArray, List.set_cons_zero, List.set_cons_succ]))
    | ((with_reducible refine at_callD 15 ?_); refine L_give (by rfl) (g_call 12 _ _ [.agg (hc (h)).toArray] (kf12 _ _) rfl ((hput_any h T 0 w1 hi hp).mono ?_)); rintro e w2 ⟨rfl, t_⟩; refine ⟨_, rfl, ?_⟩; replace b_h := b_h.below t_ b_h.lt; replace hB := hB.trans (t_.mono hB.size); clear t_; (try simp only [Act.put, List.setIfInBounds_toArray, List.set_cons_zero, List.set_cons_succ]))
    | ((with_reducible refine at_binD 19 ?_); refine L_give (by rfl) (g_ine 28 _ _ .i64 _ _ false rfl rfl (by decide) ?_); (try simp only [Act.put, List.setIfInBounds_toArray, List.set_cons_zero, List.set_cons_succ])))
  go_loopw [23] (fun i wr => ∃ j : Nat, j ≤ l.length ∧ i = .int .i64 j ∧ Hid ((l.take j).all fmay = true) ∧ Below w.heap.size w wr) (fun i _ => l.length - (intOf i).toNat)
  case atStart => exact ⟨0, Nat.zero_le _, rfl, rfl, hB⟩
  case round =>
    clear b_h hB
    obtain ⟨j, hj, rfl, ha, hB⟩ := hrel
    by_cases hlt : j < l.length
    · have hfw := hf.below hB
      obtain ⟨ao2, cap2, hv2, hcs⟩ := hfw
      obtain ⟨b, oo, hao, c0, c1⟩ := hcs j hlt
      obtain rfl : ao2 = ao := by injection hv2 with hv2; exact hv2.symm
      subst hao
      clear hcs hv2
      have hltI : (j : Int) < ((l.length : Nat) : Int) := by omega
      obtain ⟨f, hfE⟩ : ∃ f, l[j] = f := ⟨_, rfl⟩
      rw [hfE] at c0 c1
      replace hfE : Hid (l[j] = f) := hfE
      by_cases hm : fmay f = true
      · replace hm : Hid (fmay f = true) := hm
        go_wp2_with (first
          | ((with_reducible refine at_binD 24 ?_); refine L_give (by rfl) (g_ilss 3 _ _ .i64 _ _ true rfl rfl (decide_eq_true hltI) ?_); (try simp only [Act.put, List.setIfInBounds_toArray, List.set_cons_zero, List.set_cons_succ]))
          | ((with_reducible refine at_ixD 25 ?_); refine L_give (by rfl) (g_ixF _ _ b oo _ _ j rfl rfl hlt ?_); (try simp only [Act.put, List.setIfInBounds_toArray, List.set_cons_zero, List.set_cons_succ]))
          | ((with_reducible refine at_loadD 26 48 ?_); refine L_give (by rfl) (g_loadF _ b (oo + j * 2) f rfl c0 c1 ?_); (try simp only [Act.put, List.setIfInBounds_toArray, List.set_cons_zero, List.set_cons_succ]))
          | ((with_reducible refine at_allocD 9 48 ?_); refine L_alloc 48 (fc (fz)) zeroF ?_; intro wr1 t_ b_f; have l_hB_f : _ ≤ wr.heap.size := hB.size; replace hB := t_.below hB l_hB_f; clear t_; (try simp only [Act.put, List.setIfInBounds_toArray, List.set_cons_zero, List.set_cons_succ]))
          | ((with_reducible refine at_storeX 9 48 ?_); refine L_store_all 48 _ _ (wr.heap.size) (fc (f)) _ 48 rfl rfl b_f (szF fz) rfl (one_fc _) ?_; clear b_f; intro wr2 t_ b_f; replace hB := t_.below hB l_hB_f; clear t_)
          | ((with_reducible refine at_loadD 27 48 ?_); refine L_give (by rfl) (g_load_all 48 _ (wr.heap.size) (fc (f)) 48 _ rfl (b_f) Try.underlying48 rfl (szF fz) ?_); (try simp only [Act.put, List.setIfInBounds_toArray, List.set_cons_zero, List.set_cons_succ]))
          | ((with_reducible refine at_callD 28 ?_); refine L_give (by rfl) (g_call 36 _ _ [.agg (fc (f)).toArray] (kf36 _ _) rfl ((fmay_any f true wr2 hm).mono ?_)); rintro e wr3 ⟨rfl, t_⟩; refine ⟨_, rfl, ?_⟩; replace b_f := b_f.below t_ b_f.lt; replace hB := hB.trans (t_.mono hB.size); clear t_; (try simp only [Act.put, List.setIfInBounds_toArray, List.set_cons_zero, List.set_cons_succ])))
        go_roundw
        case rel => exact ⟨j + 1, hlt, by go_num, all_take l j hlt ha.out (by rw [hfE.out]; exact hm.out), hB⟩
        case measure => simp [intOf]; omega
      · replace hm : Hid (fmay f = false) := by show _ = _; simpa using hm
        go_wp2_with (first
          | ((with_reducible refine at_binD 24 ?_); refine L_give (by rfl) (g_ilss 3 _ _ .i64 _ _ true rfl rfl (decide_eq_true hltI) ?_); (try simp only [Act.put, List.setIfInBounds_toArray, List.set_cons_zero, List.set_cons_succ]))
          | ((with_reducible refine at_ixD 25 ?_); refine L_give (by rfl) (g_ixF _ _ b oo _ _ j rfl rfl hlt ?_); (try simp only [Act.put, List.setIfInBounds_toArray, List.set_cons_zero, List.set_cons_succ]))
          | ((with_reducible refine at_loadD 26 48 ?_); refine L_give (by rfl) (g_loadF _ b (oo + j * 2) f rfl c0 c1 ?_); (try simp only [Act.put, List.setIfInBounds_toArray, List.set_cons_zero, List.set_cons_succ]))
          | ((with_reducible refine at_allocD 9 48 ?_); refine L_alloc 48 (fc (fz)) zeroF ?_; intro wr1 t_ b_f; have l_hB_f : _ ≤ wr.heap.size := hB.size; replace hB := t_.below hB l_hB_f; clear t_; (try simp only [Act.put, List.setIfInBounds_toArray, List.set_cons_zero, List.set_cons_succ]))
          | ((with_reducible refine at_storeX 9 48 ?_); refine L_store_all 48 _ _ (wr.heap.size) (fc (f)) _ 48 rfl rfl b_f (szF fz) rfl (one_fc _) ?_; clear b_f; intro wr2 t_ b_f; replace hB := t_.below hB l_hB_f; clear t_)
          | ((with_reducible refine at_loadD 27 48 ?_); refine L_give (by rfl) (g_load_all 48 _ (wr.heap.size) (fc (f)) 48 _ rfl (b_f) Try.underlying48 rfl (szF fz) ?_); (try simp only [Act.put, List.setIfInBounds_toArray, List.set_cons_zero, List.set_cons_succ]))
          | ((with_reducible refine at_callD 28 ?_); refine L_give (by rfl) (g_call 36 _ _ [.agg (fc (f)).toArray] (kf36 _ _) rfl ((fmay_any f false wr2 hm).mono ?_)); rintro e wr3 ⟨rfl, t_⟩; refine ⟨_, rfl, ?_⟩; replace b_f := b_f.below t_ b_f.lt; replace hB := hB.trans (t_.mono hB.size); clear t_; (try simp only [Act.put, List.setIfInBounds_toArray, List.set_cons_zero, List.set_cons_succ])))
        exact absurd (all_not l j hlt (by rw [hfE.out]; exact hm.out)) (by rw [hal.out]; decide)
    · have hltI : ¬ (j : Int) < ((l.length : Nat) : Int) := by omega
      have hall : Hid (l.all fmay = true) := by have k := ha.out; rw [List.take_of_length_le (by omega)] at k; exact k
      clear ha
      clear hj
      go_wp2_with (first
        | ((with_reducible refine at_binD 24 ?_); refine L_give (by rfl) (g_ilss 3 _ _ .i64 _ _ false rfl rfl (decide_eq_false hltI) ?_); (try simp only [Act.put, List.setIfInBounds_toArray, List.set_cons_zero, List.set_cons_succ]))
        | ((with_reducible refine at_binD 33 ?_); refine L_give (by rfl) (g_igtr 3 _ _ .i64 _ _ false rfl rfl (decide_eq_false h16) ?_); (try simp only [Act.put, List.setIfInBounds_toArray, List.set_cons_zero, List.set_cons_succ]))
        | ((with_reducible refine at_allocD 10 55 ?_); refine L_alloc 55 [.pointer none, .slice none 0 0] zeroB ?_; intro wc t_ b_b; have l_b : w.heap.size ≤ wr.heap.size := hB.size; replace hB := t_.below hB l_b; clear t_; obtain ⟨b, hbE⟩ : ∃ b, wr.heap.size = b := ⟨_, rfl⟩; rw [hbE] at b_b l_b ⊢; have HB := isb_new b_b; clear b_b hbE; (try simp only [Act.put, List.setIfInBounds_toArray, List.set_cons_zero, List.set_cons_succ]))
        | ((with_reducible refine at_callD 35 ?_); refine L_give (by rfl) (g_call 25 _ _ [.pointer (some ⟨b, 0, none⟩), .string T] (kf25 _ _) rfl ((bwrite b _ T _ HB (by simp only [List.length_nil]; omega)).mono ?_)); rintro e wb ⟨rfl, HB2, t_⟩; refine ⟨_, rfl, ?_⟩; replace hB := hB.trans (t_.mono l_b); clear t_ HB; (try simp only [Act.put, List.setIfInBounds_toArray, List.set_cons_zero, List.set_cons_succ])))
      go_loopw [38] (fun i wr => ∃ (j : Nat) (L : List UInt8), j ≤ l.length ∧ i = .int .i64 j ∧ L.length ≤ 20000 ∧ Hid (L = T.data.toList ++ (l.take j).flatMap fb) ∧ Lib.IsBuilder 55 5 b b (Lib.byteCells L) wr ∧ Below w.heap.size w wr) (fun i _ => l.length - (intOf i).toNat)
      case atStart => exact ⟨0, _, Nat.zero_le _, rfl, by rw [List.nil_append, ← Lib.size_eq]; omega, by show _ = _; simp, HB2, hB⟩
      case round =>
        clear HB2 hB hltI
        obtain ⟨j, L, hj, rfl, hL, hLE, HB, hB⟩ := hrel
        by_cases hlt : j < l.length
        · have hfw := hf.below hB
          obtain ⟨ao2, cap2, hv2, hcs⟩ := hfw
          obtain ⟨b2, oo, hao, c0, c1⟩ := hcs j hlt
          obtain rfl : ao2 = ao := by injection hv2 with hv2; exact hv2.symm
          subst hao
          clear hcs hv2
          have hltI : (j : Int) < ((l.length : Nat) : Int) := by omega
          obtain ⟨f, hfE⟩ : ∃ f, l[j] = f := ⟨_, rfl⟩
          rw [hfE] at c0 c1
          replace hfE : Hid (l[j] = f) := hfE
          have hm : Hid (FMays f) := by show FMays f; rw [← hfE.out]; exact (all_fmay l).1 hal.out _ (List.getElem_mem hlt)
          obtain ⟨R, hR⟩ : ∃ R, Hid ((⟨(fb f).toArray⟩ : ByteArray) = R) := ⟨_, rfl⟩
          have hRs : R.size ≤ 1007 := by rw [← hR.out, size_toArray]; have := fb_le f; have := hm.out.2; omega
          have hLr : Hid (L ++ R.data.toList = T.data.toList ++ (l.take (j + 1)).flatMap fb) := by show _ = _; rw [flat_take l j hlt, hfE.out, hLE.out, List.append_assoc, ← hR.out]
          have hLb : Hid ((L ++ R.data.toList).length ≤ 20000) := by show _ ≤ _; rw [hLr.out, List.length_append, ← Lib.size_eq]; have k := flat_le (l.take (j + 1)) (fun g hg => (all_fmay l).1 hal.out g (List.mem_of_mem_take hg)); rw [List.length_take] at k; have := HT.out; have := h16N.out; omega
          have hR0 : Below wr.heap.size wr wr := Below.refl _ _
          go_wp2_with (first
            | ((with_reducible refine at_binD 39 ?_); refine L_give (by rfl) (g_ilss 3 _ _ .i64 _ _ true rfl rfl (decide_eq_true hltI) ?_); (try simp only [Act.put, List.setIfInBounds_toArray, List.set_cons_zero, List.set_cons_succ]))
            | ((with_reducible refine at_ixD 40 ?_); refine L_give (by rfl) (g_ixF _ _ b2 oo _ _ j rfl rfl hlt ?_); (try simp only [Act.put, List.setIfInBounds_toArray, List.set_cons_zero, List.set_cons_succ]))
            | ((with_reducible refine at_loadD 41 48 ?_); refine L_give (by rfl) (g_loadF _ b2 (oo + j * 2) f rfl c0 c1 ?_); (try simp only [Act.put, List.setIfInBounds_toArray, List.set_cons_zero, List.set_cons_succ]))
            | ((with_reducible refine at_allocD 12 48 ?_); refine L_alloc 48 (fc (fz)) zeroF ?_; intro wr1 t_ b_f; have l_hB_f : _ ≤ wr.heap.size := hB.size; have l_hR0_f : _ ≤ wr.heap.size := hR0.size; replace hB := t_.below hB l_hB_f; replace hR0 := t_.below hR0 l_hR0_f; clear t_; (try simp only [Act.put, List.setIfInBounds_toArray, List.set_cons_zero, List.set_cons_succ]))
            | ((with_reducible refine at_storeX 12 48 ?_); refine L_store_all 48 _ _ (wr.heap.size) (fc (f)) _ 48 rfl rfl b_f (szF fz) rfl (one_fc _) ?_; clear b_f; intro wr2 t_ b_f; replace hB := t_.below hB l_hB_f; replace hR0 := t_.below hR0 l_hR0_f; clear t_)
            | ((with_reducible refine at_loadD 42 48 ?_); refine L_give (by rfl) (g_load_all 48 _ (wr.heap.size) (fc (f)) 48 _ rfl (b_f) Try.underlying48 rfl (szF fz) ?_); (try simp only [Act.put, List.setIfInBounds_toArray, List.set_cons_zero, List.set_cons_succ]))
            | ((with_reducible refine at_callD 43 ?_); refine L_give (by rfl) (g_call 37 _ _ [.agg (fc (f)).toArray] (kf37 _ _) rfl ((fbytes_any f R wr2 hm.out hR).mono ?_)); rintro e wr3 ⟨rfl, t_⟩; refine ⟨_, rfl, ?_⟩; replace b_f := b_f.below t_ b_f.lt; replace hB := hB.trans (t_.mono hB.size); replace hR0 := hR0.trans (t_.mono hR0.size); clear t_; (try simp only [Act.put, List.setIfInBounds_toArray, List.set_cons_zero, List.set_cons_succ]))
            | ((with_reducible refine at_callD 44 ?_); refine L_give (by rfl) (g_call 25 _ _ [.pointer (some ⟨b, 0, none⟩), .string R] (kf25 _ _) rfl ((bwrite b L R _ (isb_below HB hR0) (by omega)).mono ?_)); rintro e wb ⟨rfl, HB2, t_⟩; refine ⟨_, rfl, ?_⟩; replace hB := hB.trans (t_.mono l_b); clear t_ HB; (try simp only [Act.put, List.setIfInBounds_toArray, List.set_cons_zero, List.set_cons_succ])))
          go_roundw
          case rel => exact ⟨j + 1, _, hlt, by go_num, hLb.out, hLr.out, HB2, hB⟩
          case measure => simp [intOf]; omega
        · have hltI : ¬ (j : Int) < ((l.length : Nat) : Int) := by omega
          have hEnd : Hid (L = T.data.toList ++ l.flatMap fb) := by have k := hLE.out; rw [List.take_of_length_le (by omega)] at k; exact k
          go_wp2_with (first
            | ((with_reducible refine at_binD 39 ?_); refine L_give (by rfl) (g_ilss 3 _ _ .i64 _ _ false rfl rfl (decide_eq_false hltI) ?_); (try simp only [Act.put, List.setIfInBounds_toArray, List.set_cons_zero, List.set_cons_succ]))
            | ((with_reducible refine at_callD 46 ?_); refine L_give (by rfl) (g_call 29 _ _ [.pointer (some ⟨b, 0, none⟩)] (kf29 _ _) rfl ((Try.Builder_String_any b b _ _ HB (Nat.le_of_lt (isb_lt HB))).mono ?_)); rintro e wa ⟨rfl, t_⟩; refine ⟨_, rfl, ?_⟩; replace hB := hB.trans (t_.mono l_b); clear t_; (try simp only [Act.put, List.setIfInBounds_toArray, List.set_cons_zero, List.set_cons_succ])))
          go_ret2
          exact ⟨by rw [hEnd.out]; rfl, hB⟩
theorem hwrite_any (h : Hd) (l : List (Int × ByteArray)) (ao : Option Addr) (cap : Nat) (w : World) (hi : InH h) (hn : l.length ≤ 140737488355328) (hf : Fis w (.slice ao l.length cap) l) (S : ByteArray) (E : Int) (hw : Hid (wr h l = (S, E))) : Calls Try.prog 21 #[.agg (hc h).toArray, .slice ao l.length cap] w fun e w' => e = .returned (.tuple #[.string S, .int .i64 E]) ∧ Below w.heap.size w w' := by
  have hw := hw.out
  unfold wr at hw
  split at hw
  · rename_i hm
    have hp : Hid (pt h = (⟨(hb h).toArray⟩, 0)) := by show _ = _; unfold pt; rw [if_pos hm]
    have hT : (⟨(hb h).toArray⟩ : ByteArray).size = 48 := by rw [size_toArray, hb_length]
    split at hw
    · rename_i ha
      split at hw
      · rename_i h16
        obtain ⟨rfl, rfl⟩ := Prod.mk.inj hw
        exact write_2 h l ao cap w hi hn hf _ hp ha (by omega)
      · rename_i h16
        obtain ⟨rfl, rfl⟩ := Prod.mk.inj hw
        exact write_3 h l ao cap w hi hn hf _ hT hT hp ha (by omega) (show l.length ≤ 16 by omega)
    · rename_i ha
      obtain ⟨rfl, rfl⟩ := Prod.mk.inj hw
      exact write_1 h l ao cap w hi hn hf _ hp (show l.all fmay = false by simpa using ha)
  · rename_i hm
    obtain ⟨rfl, rfl⟩ := Prod.mk.inj hw
    exact write_0 h l ao cap w hi hn hf (by show _ = _; unfold pt; rw [if_neg hm])
end Go.Proofs.Yteieacamokoejaa
