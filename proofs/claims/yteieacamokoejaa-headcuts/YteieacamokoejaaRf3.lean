/- What the reference's Write answers: as the program's does. -/
import Derived.Test.YteieacamokoejaaRf2
namespace Go.Proofs.Yteieacamokoejaa
open Go Go.RowKit
set_option linter.unusedVariables false
set_option linter.unusedSimpArgs false

theorem size_app (a b : ByteArray) : (a ++ b).size = a.size + b.size := by
  rw [Lib.size_eq, ByteArray.data_append, Array.toList_append, List.length_append, ← Lib.size_eq, ← Lib.size_eq]
theorem list_app (a b : ByteArray) : (a ++ b).data.toList = a.data.toList ++ b.data.toList := by
  rw [ByteArray.data_append, Array.toList_append]
/-- One extension's bytes, as the reference lays them. -/
theorem pad_end (X D Y Z : List UInt8) (z : Nat) (hX : X.length % 4 = 0) (hY : Y = X ++ D) (hZ : Z = Y ++ List.replicate z 0) (hz : z ≤ (4 - Y.length % 4) % 4) (h4 : Z.length % 4 = 0) : Z = X ++ pad4 D := by
  subst hY
  have e : z = (4 - D.length % 4) % 4 := by
    rw [hZ, List.length_append, List.length_append, List.length_replicate] at h4
    rw [List.length_append] at hz
    omega
  rw [hZ, pad4, e, List.append_assoc]
set_option maxRecDepth 10000 in
set_option maxHeartbeats 2000000 in
theorem rwrite_0 (h : Hd) (l : List (Int × ByteArray)) (ao : Option Addr) (cap : Nat) (w : World) (hi : InH h) (hn : l.length ≤ 140737488355328) (hf : Fis w (.slice ao l.length cap) l) (hp : Hid (pt h = (ByteArray.empty, 2))) : Calls Try.prog 22 #[.agg (hc h).toArray, .slice ao l.length cap] w fun e w' => e = .returned (.tuple #[.string ByteArray.empty, .int .i64 2]) ∧ Below w.heap.size w w' := by
  go_enter Try.func22, Try.ntmps22
  go_wp2_with (first
    | ((with_reducible refine at_boxD 2 26 ?_); refine L_box 26 _ (hc (h)) rfl ?_; intro w1 t_ b_h; have l_hB_h : w.heap.size ≤ w.heap.size := Nat.le_refl _; have hB : Below w.heap.size w w1 := t_.below (Below.refl _ _) (Nat.le_refl _); clear t_; (try simp only [Act.put, List.setIfInBounds_toArray, List.set_cons_zero, List.set_cons_succ]))
    | ((with_reducible refine at_loadD 10 26 ?_); refine L_give (by rfl) (g_load_all 26 _ (w.heap.size) (hc (h)) 26 _ rfl (b_h) Try.underlying26 rfl (szH hz) ?_); (try simp only [Act.put, List.setIfInBounds_toArray, List.set_cons_zero, List.set_cons_succ]))
    | ((with_reducible refine at_callD 11 ?_); refine L_give (by rfl) (g_call 13 _ _ [.agg (hc (h)).toArray] (kf13 _ _) rfl ((rhput_any h ByteArray.empty 2 w1 hi hp).mono ?_)); rintro e w2 ⟨rfl, t_⟩; refine ⟨_, rfl, ?_⟩; replace b_h := b_h.below t_ b_h.lt; replace hB := hB.trans (t_.mono hB.size); clear t_; (try simp only [Act.put, List.setIfInBounds_toArray, List.set_cons_zero, List.set_cons_succ]))
    | ((with_reducible refine at_binD 15 ?_); refine L_give (by rfl) (g_ine 28 _ _ .i64 _ _ true rfl rfl (by decide) ?_); (try simp only [Act.put, List.setIfInBounds_toArray, List.set_cons_zero, List.set_cons_succ])))
  go_ret2
  exact ⟨rfl, hB⟩
set_option maxRecDepth 10000 in
set_option maxHeartbeats 2000000 in
theorem rwrite_1 (h : Hd) (l : List (Int × ByteArray)) (ao : Option Addr) (cap : Nat) (w : World) (hi : InH h) (hn : l.length ≤ 140737488355328) (hf : Fis w (.slice ao l.length cap) l) (T : ByteArray) (hT : Hid (T.size = 48)) (hp : Hid (pt h = (T, 0))) (hno : Hid (l.all fmay = false)) : Calls Try.prog 22 #[.agg (hc h).toArray, .slice ao l.length cap] w fun e w' => e = .returned (.tuple #[.string ByteArray.empty, .int .i64 2]) ∧ Below w.heap.size w w' := by
  go_enter Try.func22, Try.ntmps22
  go_wp2_with (first
    | ((with_reducible refine at_boxD 2 26 ?_); refine L_box 26 _ (hc (h)) rfl ?_; intro w1 t_ b_h; have l_hB_h : w.heap.size ≤ w.heap.size := Nat.le_refl _; have hB : Below w.heap.size w w1 := t_.below (Below.refl _ _) (Nat.le_refl _); clear t_; (try simp only [Act.put, List.setIfInBounds_toArray, List.set_cons_zero, List.set_cons_succ]))
    | ((with_reducible refine at_loadD 10 26 ?_); refine L_give (by rfl) (g_load_all 26 _ (w.heap.size) (hc (h)) 26 _ rfl (b_h) Try.underlying26 rfl (szH hz) ?_); (try simp only [Act.put, List.setIfInBounds_toArray, List.set_cons_zero, List.set_cons_succ]))
    | ((with_reducible refine at_callD 11 ?_); refine L_give (by rfl) (g_call 13 _ _ [.agg (hc (h)).toArray] (kf13 _ _) rfl ((rhput_any h T 0 w1 hi hp).mono ?_)); rintro e w2 ⟨rfl, t_⟩; refine ⟨_, rfl, ?_⟩; replace b_h := b_h.below t_ b_h.lt; replace hB := hB.trans (t_.mono hB.size); clear t_; (try simp only [Act.put, List.setIfInBounds_toArray, List.set_cons_zero, List.set_cons_succ]))
    | ((with_reducible refine at_binD 15 ?_); refine L_give (by rfl) (g_ine 28 _ _ .i64 _ _ false rfl rfl (by decide) ?_); (try simp only [Act.put, List.setIfInBounds_toArray, List.set_cons_zero, List.set_cons_succ])))
  go_loopw [6, 8] (fun s6 i wr => ∃ (j : Nat) (X : ByteArray), j ≤ l.length ∧ i = .int .i64 j ∧ s6 = .string X ∧ X.size ≤ 48 + 1007 * j ∧ X.size % 4 = 0 ∧ Hid (X.data.toList = T.data.toList ++ (l.take j).flatMap fb) ∧ Hid ((l.take j).all fmay = true) ∧ Below w.heap.size w wr) (fun _ i _ => l.length - (intOf i).toNat)
  case atStart => exact ⟨0, T, Nat.zero_le _, rfl, rfl, by have := hT.out; omega, by have := hT.out; omega, by show _ = _; simp, rfl, hB⟩
  case round =>
    clear b_h hB
    obtain ⟨j, X, hj, rfl, rfl, hXs, hX4, hX, ha, hB⟩ := hrel
    by_cases hlt : j < l.length
    · have hltI : (j : Int) < ((l.length : Nat) : Int) := by omega
      obtain ⟨ao2, capx, hv2, hcs⟩ := hf.below hB
      obtain ⟨b, bo, hao, c0, c1⟩ := hcs j hlt
      obtain rfl : ao2 = ao := by injection hv2 with hv2; exact hv2.symm
      subst hao
      clear hcs hv2
      obtain ⟨f, hfE⟩ : ∃ f, l[j] = f := ⟨_, rfl⟩
      rw [hfE] at c0 c1
      replace hfE : Hid (l[j] = f) := hfE
      by_cases k1 : f.1 < 1
      · skip
        have hno : Hid (fmay f = false) := decide_eq_false (fun i => by have := i.1; have := i.2; omega)
        have hno2 : Hid (l.all fmay = false) := all_not l j hlt (by rw [hfE.out]; exact hno.out)
        go_wp2_with (first
          | ((with_reducible refine at_binD 20 ?_); refine L_give (by rfl) (g_ilss 3 _ _ .i64 _ _ true rfl rfl (decide_eq_true hltI) ?_); (try simp only [Act.put, List.setIfInBounds_toArray, List.set_cons_zero, List.set_cons_succ]))
          | ((with_reducible refine at_ixD 25 ?_); refine L_give (by rfl) (g_ixF _ _ b bo _ _ j rfl rfl hlt ?_); (try simp only [Act.put, List.setIfInBounds_toArray, List.set_cons_zero, List.set_cons_succ]))
          | ((with_reducible refine at_fdD 26 ?_); refine L_give (by rfl) (g_fF0 _ b (bo + j * 2) rfl ?_); (try simp only [Act.put, List.setIfInBounds_toArray, List.set_cons_zero, List.set_cons_succ]))
          | ((with_reducible refine at_loadD 27 3 ?_); refine L_give (by rfl) (g_cell3 _ b (bo + j * 2) _ rfl c0 ?_); (try simp only [Act.put, List.setIfInBounds_toArray, List.set_cons_zero, List.set_cons_succ]))
          | ((with_reducible refine at_binD 28 ?_); refine L_give (by rfl) (g_ilss 3 _ _ .i64 _ _ true rfl rfl (decide_eq_true k1) ?_); (try simp only [Act.put, List.setIfInBounds_toArray, List.set_cons_zero, List.set_cons_succ])))
        go_ret2
        exact ⟨rfl, hB⟩
      by_cases k2 : 65535 < f.1
      · skip
        have hno : Hid (fmay f = false) := decide_eq_false (fun i => by have := i.1; have := i.2; omega)
        have hno2 : Hid (l.all fmay = false) := all_not l j hlt (by rw [hfE.out]; exact hno.out)
        go_wp2_with (first
          | ((with_reducible refine at_binD 20 ?_); refine L_give (by rfl) (g_ilss 3 _ _ .i64 _ _ true rfl rfl (decide_eq_true hltI) ?_); (try simp only [Act.put, List.setIfInBounds_toArray, List.set_cons_zero, List.set_cons_succ]))
          | ((with_reducible refine at_ixD 25 ?_); refine L_give (by rfl) (g_ixF _ _ b bo _ _ j rfl rfl hlt ?_); (try simp only [Act.put, List.setIfInBounds_toArray, List.set_cons_zero, List.set_cons_succ]))
          | ((with_reducible refine at_fdD 26 ?_); refine L_give (by rfl) (g_fF0 _ b (bo + j * 2) rfl ?_); (try simp only [Act.put, List.setIfInBounds_toArray, List.set_cons_zero, List.set_cons_succ]))
          | ((with_reducible refine at_loadD 27 3 ?_); refine L_give (by rfl) (g_cell3 _ b (bo + j * 2) _ rfl c0 ?_); (try simp only [Act.put, List.setIfInBounds_toArray, List.set_cons_zero, List.set_cons_succ]))
          | ((with_reducible refine at_binD 28 ?_); refine L_give (by rfl) (g_ilss 3 _ _ .i64 _ _ false rfl rfl (decide_eq_false k1) ?_); (try simp only [Act.put, List.setIfInBounds_toArray, List.set_cons_zero, List.set_cons_succ]))
          | ((with_reducible refine at_ixD 32 ?_); refine L_give (by rfl) (g_ixF _ _ b bo _ _ j rfl rfl hlt ?_); (try simp only [Act.put, List.setIfInBounds_toArray, List.set_cons_zero, List.set_cons_succ]))
          | ((with_reducible refine at_fdD 33 ?_); refine L_give (by rfl) (g_fF0 _ b (bo + j * 2) rfl ?_); (try simp only [Act.put, List.setIfInBounds_toArray, List.set_cons_zero, List.set_cons_succ]))
          | ((with_reducible refine at_loadD 34 3 ?_); refine L_give (by rfl) (g_cell3 _ b (bo + j * 2) _ rfl c0 ?_); (try simp only [Act.put, List.setIfInBounds_toArray, List.set_cons_zero, List.set_cons_succ]))
          | ((with_reducible refine at_binD 35 ?_); refine L_give (by rfl) (g_igtr 3 _ _ .i64 _ _ true rfl rfl (decide_eq_true k2) ?_); (try simp only [Act.put, List.setIfInBounds_toArray, List.set_cons_zero, List.set_cons_succ])))
        go_ret2
        exact ⟨rfl, hB⟩
      by_cases k3 : (1000 : Int) < (f.2.size : Int)
      · skip
        have hno : Hid (fmay f = false) := decide_eq_false (fun i => by have := i.1; have := i.2; omega)
        have hno2 : Hid (l.all fmay = false) := all_not l j hlt (by rw [hfE.out]; exact hno.out)
        go_wp2_with (first
          | ((with_reducible refine at_binD 20 ?_); refine L_give (by rfl) (g_ilss 3 _ _ .i64 _ _ true rfl rfl (decide_eq_true hltI) ?_); (try simp only [Act.put, List.setIfInBounds_toArray, List.set_cons_zero, List.set_cons_succ]))
          | ((with_reducible refine at_ixD 25 ?_); refine L_give (by rfl) (g_ixF _ _ b bo _ _ j rfl rfl hlt ?_); (try simp only [Act.put, List.setIfInBounds_toArray, List.set_cons_zero, List.set_cons_succ]))
          | ((with_reducible refine at_fdD 26 ?_); refine L_give (by rfl) (g_fF0 _ b (bo + j * 2) rfl ?_); (try simp only [Act.put, List.setIfInBounds_toArray, List.set_cons_zero, List.set_cons_succ]))
          | ((with_reducible refine at_loadD 27 3 ?_); refine L_give (by rfl) (g_cell3 _ b (bo + j * 2) _ rfl c0 ?_); (try simp only [Act.put, List.setIfInBounds_toArray, List.set_cons_zero, List.set_cons_succ]))
          | ((with_reducible refine at_binD 28 ?_); refine L_give (by rfl) (g_ilss 3 _ _ .i64 _ _ false rfl rfl (decide_eq_false k1) ?_); (try simp only [Act.put, List.setIfInBounds_toArray, List.set_cons_zero, List.set_cons_succ]))
          | ((with_reducible refine at_ixD 32 ?_); refine L_give (by rfl) (g_ixF _ _ b bo _ _ j rfl rfl hlt ?_); (try simp only [Act.put, List.setIfInBounds_toArray, List.set_cons_zero, List.set_cons_succ]))
          | ((with_reducible refine at_fdD 33 ?_); refine L_give (by rfl) (g_fF0 _ b (bo + j * 2) rfl ?_); (try simp only [Act.put, List.setIfInBounds_toArray, List.set_cons_zero, List.set_cons_succ]))
          | ((with_reducible refine at_loadD 34 3 ?_); refine L_give (by rfl) (g_cell3 _ b (bo + j * 2) _ rfl c0 ?_); (try simp only [Act.put, List.setIfInBounds_toArray, List.set_cons_zero, List.set_cons_succ]))
          | ((with_reducible refine at_binD 35 ?_); refine L_give (by rfl) (g_igtr 3 _ _ .i64 _ _ false rfl rfl (decide_eq_false k2) ?_); (try simp only [Act.put, List.setIfInBounds_toArray, List.set_cons_zero, List.set_cons_succ]))
          | ((with_reducible refine at_ixD 40 ?_); refine L_give (by rfl) (g_ixF _ _ b bo _ _ j rfl rfl hlt ?_); (try simp only [Act.put, List.setIfInBounds_toArray, List.set_cons_zero, List.set_cons_succ]))
          | ((with_reducible refine at_fdD 41 ?_); refine L_give (by rfl) (g_fF1 _ b (bo + j * 2) rfl ?_); (try simp only [Act.put, List.setIfInBounds_toArray, List.set_cons_zero, List.set_cons_succ]))
          | ((with_reducible refine at_loadD 42 9 ?_); refine L_give (by rfl) (g_cell9 _ b (bo + j * 2 + 1) _ rfl c1 ?_); (try simp only [Act.put, List.setIfInBounds_toArray, List.set_cons_zero, List.set_cons_succ]))
          | ((with_reducible refine at_callD 43 ?_); refine L_give (by rfl) (g_slen _ f.2 _ rfl rfl ?_); (try simp only [Act.put, List.setIfInBounds_toArray, List.set_cons_zero, List.set_cons_succ]))
          | ((with_reducible refine at_binD 44 ?_); refine L_give (by rfl) (g_igtr 3 _ _ .i64 _ _ true rfl rfl (decide_eq_true k3) ?_); (try simp only [Act.put, List.setIfInBounds_toArray, List.set_cons_zero, List.set_cons_succ])))
        go_ret2
        exact ⟨rfl, hB⟩
      have hfm : Hid (FMays f) := by show FMays f; exact ⟨⟨by omega, by omega⟩, by omega⟩
      have hyes : Hid (fmay f = true) := decide_eq_true hfm.out
      obtain ⟨m, hm⟩ : ∃ m : Int, Hid (IntKind.i64.wrap (4 + (f.2.size : Int)) = m) := ⟨_, rfl⟩
      have hmE : m = 4 + (f.2.size : Int) := by rw [← hm.out]; exact wrap_i64 _ (by omega) (by omega)
      have hm2 : Hid (IntKind.u64.wrap m = m) := wraps_u64 _ (by omega) (by omega)
      have hk2 : Hid (IntKind.u64.wrap f.1 = f.1) := wraps_u64 _ (by omega) (by omega)
      obtain ⟨A, hA⟩ : ∃ A, Hid ((⟨(putL f.1.toNat 2).toArray⟩ : ByteArray) = A) := ⟨_, rfl⟩
      obtain ⟨B, hBb⟩ : ∃ B, Hid ((⟨(putL m.toNat 2).toArray⟩ : ByteArray) = B) := ⟨_, rfl⟩
      obtain ⟨C, hC⟩ : ∃ C, Hid (A ++ B = C) := ⟨_, rfl⟩
      obtain ⟨D, hD⟩ : ∃ D, Hid (C ++ f.2 = D) := ⟨_, rfl⟩
      obtain ⟨Y, hY⟩ : ∃ Y, Hid (X ++ D = Y) := ⟨_, rfl⟩
      have zA : A.size = 2 := by rw [← hA.out, size_toArray, putL_length]
      have zB : B.size = 2 := by rw [← hBb.out, size_toArray, putL_length]
      have zC : C.size = 4 := by rw [← hC.out, size_app]; omega
      have zD : D.size = 4 + f.2.size := by rw [← hD.out, size_app]; omega
      have zY : Y.size = X.size + D.size := by rw [← hY.out, size_app]
      have hfb : Hid (fb f = pad4 D.data.toList) := by show _ = _; rw [fb, ← hD.out, list_app, ← hC.out, list_app, ← hA.out, ← hBb.out, hmE, show (4 + (f.2.size : Int)).toNat = 4 + f.2.size by omega, List.append_assoc]
      go_wp2_with (first
        | ((with_reducible refine at_binD 20 ?_); refine L_give (by rfl) (g_ilss 3 _ _ .i64 _ _ true rfl rfl (decide_eq_true hltI) ?_); (try simp only [Act.put, List.setIfInBounds_toArray, List.set_cons_zero, List.set_cons_succ]))
        | ((with_reducible refine at_ixD 25 ?_); refine L_give (by rfl) (g_ixF _ _ b bo _ _ j rfl rfl hlt ?_); (try simp only [Act.put, List.setIfInBounds_toArray, List.set_cons_zero, List.set_cons_succ]))
        | ((with_reducible refine at_fdD 26 ?_); refine L_give (by rfl) (g_fF0 _ b (bo + j * 2) rfl ?_); (try simp only [Act.put, List.setIfInBounds_toArray, List.set_cons_zero, List.set_cons_succ]))
        | ((with_reducible refine at_loadD 27 3 ?_); refine L_give (by rfl) (g_cell3 _ b (bo + j * 2) _ rfl c0 ?_); (try simp only [Act.put, List.setIfInBounds_toArray, List.set_cons_zero, List.set_cons_succ]))
        | ((with_reducible refine at_binD 28 ?_); refine L_give (by rfl) (g_ilss 3 _ _ .i64 _ _ false rfl rfl (decide_eq_false k1) ?_); (try simp only [Act.put, List.setIfInBounds_toArray, List.set_cons_zero, List.set_cons_succ]))
        | ((with_reducible refine at_ixD 32 ?_); refine L_give (by rfl) (g_ixF _ _ b bo _ _ j rfl rfl hlt ?_); (try simp only [Act.put, List.setIfInBounds_toArray, List.set_cons_zero, List.set_cons_succ]))
        | ((with_reducible refine at_fdD 33 ?_); refine L_give (by rfl) (g_fF0 _ b (bo + j * 2) rfl ?_); (try simp only [Act.put, List.setIfInBounds_toArray, List.set_cons_zero, List.set_cons_succ]))
        | ((with_reducible refine at_loadD 34 3 ?_); refine L_give (by rfl) (g_cell3 _ b (bo + j * 2) _ rfl c0 ?_); (try simp only [Act.put, List.setIfInBounds_toArray, List.set_cons_zero, List.set_cons_succ]))
        | ((with_reducible refine at_binD 35 ?_); refine L_give (by rfl) (g_igtr 3 _ _ .i64 _ _ false rfl rfl (decide_eq_false k2) ?_); (try simp only [Act.put, List.setIfInBounds_toArray, List.set_cons_zero, List.set_cons_succ]))
        | ((with_reducible refine at_ixD 40 ?_); refine L_give (by rfl) (g_ixF _ _ b bo _ _ j rfl rfl hlt ?_); (try simp only [Act.put, List.setIfInBounds_toArray, List.set_cons_zero, List.set_cons_succ]))
        | ((with_reducible refine at_fdD 41 ?_); refine L_give (by rfl) (g_fF1 _ b (bo + j * 2) rfl ?_); (try simp only [Act.put, List.setIfInBounds_toArray, List.set_cons_zero, List.set_cons_succ]))
        | ((with_reducible refine at_loadD 42 9 ?_); refine L_give (by rfl) (g_cell9 _ b (bo + j * 2 + 1) _ rfl c1 ?_); (try simp only [Act.put, List.setIfInBounds_toArray, List.set_cons_zero, List.set_cons_succ]))
        | ((with_reducible refine at_callD 43 ?_); refine L_give (by rfl) (g_slen _ f.2 _ rfl rfl ?_); (try simp only [Act.put, List.setIfInBounds_toArray, List.set_cons_zero, List.set_cons_succ]))
        | ((with_reducible refine at_binD 44 ?_); refine L_give (by rfl) (g_igtr 3 _ _ .i64 _ _ false rfl rfl (decide_eq_false k3) ?_); (try simp only [Act.put, List.setIfInBounds_toArray, List.set_cons_zero, List.set_cons_succ]))
        | (refine stop_region 9 ?_; intro X2 hX2))
      refine hX2.out ?_
      clear hX2 X2
      refine wp_region_lateF 25 (by kernel_rfl) (by kernel_rfl) (by rfl) [.string X, .slice (some ⟨b, bo, none⟩) l.length cap, .int .i64 (j : Int), .pointer (some ⟨b, bo + j * 2, none⟩), .pointer (some ⟨b, bo + j * 2, none⟩), .int .i64 f.1, .int .u64 f.1, .string A, .slice (some ⟨b, bo, none⟩) l.length cap, .int .i64 (j : Int), .pointer (some ⟨b, bo + j * 2, none⟩), .pointer (some ⟨b, bo + j * 2 + 1, none⟩), .string f.2, .int .i64 (f.2.size : Int), .int .i64 m, .int .u64 m, .string B, .string C, .slice (some ⟨b, bo, none⟩) l.length cap, .int .i64 (j : Int), .pointer (some ⟨b, bo + j * 2, none⟩), .pointer (some ⟨b, bo + j * 2 + 1, none⟩), .string f.2, .string D, .string Y, .string Y] (by rfl) (fun w' => Below wr.heap.size wr w') (Below.refl _ _).drew ?_ ?_
      · simp only [List.take_succ_cons, List.take_zero, fullL, Act.put, List.setIfInBounds_toArray, List.set_cons_succ, List.set_cons_zero]
        intro i o ho wx hw
        rcases i with _ | _ | _ | _ | _ | _ | _ | _ | _ | _ | _ | _ | _ | _ | _ | _ | _ | _ | _ | _ | _ | _ | _ | _ | _ | _ | i
        · obtain rfl := Option.some.inj ho; exact g_move _ _ rfl ⟨rfl, hw⟩
        · obtain rfl := Option.some.inj ho; exact g_move _ _ rfl ⟨rfl, hw⟩
        · obtain rfl := Option.some.inj ho; exact g_move _ _ rfl ⟨rfl, hw⟩
        · obtain rfl := Option.some.inj ho; exact g_ixF _ _ b bo _ _ j rfl rfl hlt ⟨rfl, hw⟩
        · obtain rfl := Option.some.inj ho; exact g_fF0 _ b (bo + j * 2) rfl ⟨rfl, hw⟩
        · obtain rfl := Option.some.inj ho; exact g_cell3 _ b (bo + j * 2) _ rfl (by rw [hw.cell (World.block_lt_of_cell? wr _ c0)]; exact c0) ⟨rfl, hw⟩
        · obtain rfl := Option.some.inj ho; exact g_cv_3_23 _ _ _ rfl hk2.out ⟨rfl, hw⟩
        · obtain rfl := Option.some.inj ho; exact g_call 30 _ _ [.int .u64 f.1, .int .i64 ((2 : Nat) : Int)] (kf30 _ _) rfl ((rput_x f.1 2 A wx (by decide) (by omega) (by omega) hA).mono fun _ _ ⟨h1, h2⟩ => ⟨_, h1, rfl, hw.trans (h2.mono hw.size)⟩)
        · obtain rfl := Option.some.inj ho; exact g_move _ _ rfl ⟨rfl, hw⟩
        · obtain rfl := Option.some.inj ho; exact g_move _ _ rfl ⟨rfl, hw⟩
        · obtain rfl := Option.some.inj ho; exact g_ixF _ _ b bo _ _ j rfl rfl hlt ⟨rfl, hw⟩
        · obtain rfl := Option.some.inj ho; exact g_fF1 _ b (bo + j * 2) rfl ⟨rfl, hw⟩
        · obtain rfl := Option.some.inj ho; exact g_cell9 _ b (bo + j * 2 + 1) _ rfl (by rw [hw.cell (World.block_lt_of_cell? wr _ c1)]; exact c1) ⟨rfl, hw⟩
        · obtain rfl := Option.some.inj ho; exact g_slen _ f.2 _ rfl rfl ⟨rfl, hw⟩
        · obtain rfl := Option.some.inj ho; exact g_iadd 3 _ _ .i64 _ _ m rfl rfl hm.out ⟨rfl, hw⟩
        · obtain rfl := Option.some.inj ho; exact g_cv_3_23 _ _ _ rfl hm2.out ⟨rfl, hw⟩
        · obtain rfl := Option.some.inj ho; exact g_call 30 _ _ [.int .u64 m, .int .i64 ((2 : Nat) : Int)] (kf30 _ _) rfl ((rput_x m 2 B wx (by decide) (by omega) (by omega) hBb).mono fun _ _ ⟨h1, h2⟩ => ⟨_, h1, rfl, hw.trans (h2.mono hw.size)⟩)
        · obtain rfl := Option.some.inj ho; exact g_sadd 9 _ _ A B C rfl rfl hC.out (by omega) ⟨rfl, hw⟩
        · obtain rfl := Option.some.inj ho; exact g_move _ _ rfl ⟨rfl, hw⟩
        · obtain rfl := Option.some.inj ho; exact g_move _ _ rfl ⟨rfl, hw⟩
        · obtain rfl := Option.some.inj ho; exact g_ixF _ _ b bo _ _ j rfl rfl hlt ⟨rfl, hw⟩
        · obtain rfl := Option.some.inj ho; exact g_fF1 _ b (bo + j * 2) rfl ⟨rfl, hw⟩
        · obtain rfl := Option.some.inj ho; exact g_cell9 _ b (bo + j * 2 + 1) _ rfl (by rw [hw.cell (World.block_lt_of_cell? wr _ c1)]; exact c1) ⟨rfl, hw⟩
        · obtain rfl := Option.some.inj ho; exact g_sadd 9 _ _ C f.2 D rfl rfl hD.out (by omega) ⟨rfl, hw⟩
        · obtain rfl := Option.some.inj ho; exact g_sadd 9 _ _ X D Y rfl rfl hY.out (by omega) ⟨rfl, hw⟩
        · obtain rfl := Option.some.inj ho; exact g_assign _ _ rfl ⟨rfl, hw⟩
        · simp at ho
      · simp only [fullL, Act.put, List.setIfInBounds_toArray, List.set_cons_succ, List.set_cons_zero]
        intro w1 t_
        replace hB := hB.trans (t_.mono hB.size)
        clear t_ c0 c1
        go_wp2_with fail
        go_loop [6] (fun s6 => ∃ (Z : ByteArray) (z : Nat), s6 = .string Z ∧ Z.size = Y.size + z ∧ z ≤ 3 ∧ Hid (z ≤ (4 - Y.size % 4) % 4) ∧ Hid (Z.data.toList = Y.data.toList ++ List.replicate z 0)) (fun s6 => (4 - strLen s6 % 4) % 4)
        case atStart => exact ⟨Y, 0, rfl, rfl, by omega, Nat.zero_le _, by show _ = _; simp⟩
        case round =>
          obtain ⟨Z, z, rfl, zZ, hz3, hz, hZ⟩ := hrel
          by_cases h4 : Z.size % 4 = 0
          · have h4I : ((Z.size : Nat) : Int).tmod 4 = 0 := by rw [Int.tmod_eq_emod_of_nonneg (by omega)]; omega
            have hend : Hid (Z.data.toList = T.data.toList ++ (l.take (j + 1)).flatMap fb) := by
              show _ = _
              rw [pad_end X.data.toList D.data.toList Y.data.toList Z.data.toList z (by rw [← Lib.size_eq]; exact hX4) (by rw [← hY.out, list_app]) hZ.out (by rw [← Lib.size_eq]; exact hz.out) (by rw [← Lib.size_eq]; exact h4), ← hfb.out, hX.out, flat_take l j hlt, hfE.out, List.append_assoc]
            have hZs : Z.size ≤ 48 + 1007 * (j + 1) := by omega
            go_wp2_with (first
              | ((with_reducible refine at_binD 73 ?_); refine L_give (by rfl) (g_irem 3 _ _ .i64 _ _ 0 rfl rfl (by decide) h4I ?_); (try simp only [Act.put, List.setIfInBounds_toArray, List.set_cons_zero, List.set_cons_succ]))
              | ((with_reducible refine at_binD 74 ?_); refine L_give (by rfl) (g_ine 3 _ _ .i64 _ _ false rfl rfl (by decide) ?_); (try simp only [Act.put, List.setIfInBounds_toArray, List.set_cons_zero, List.set_cons_succ])))
            go_roundw
            case rel => exact ⟨j + 1, Z, hlt, by go_num, rfl, hZs, h4, hend, all_take l j hlt ha.out (by rw [hfE.out]; exact hyes.out), hB⟩
            case measure => simp [intOf]; omega
          · obtain ⟨q, hq⟩ : ∃ q : Int, ((Z.size : Nat) : Int).tmod 4 = q := ⟨_, rfl⟩
            have hq0 : q ≠ 0 := by rw [← hq, Int.tmod_eq_emod_of_nonneg (by omega)]; omega
            obtain ⟨Z2, hZ2⟩ : ∃ Z2, Hid (Z ++ ⟨#[0]⟩ = Z2) := ⟨_, rfl⟩
            have zZ2 : Z2.size = Z.size + 1 := by rw [← hZ2.out, size_app]; rfl
            have hz2 : Hid (z + 1 ≤ (4 - Y.size % 4) % 4) := by show _ ≤ _; have := hz.out; omega
            have hZl : Hid (Z2.data.toList = Y.data.toList ++ List.replicate (z + 1) 0) := by show _ = _; rw [← hZ2.out, list_app, hZ.out, List.append_assoc, List.replicate_succ']
            go_wp2_with (first
              | ((with_reducible refine at_binD 73 ?_); refine L_give (by rfl) (g_irem 3 _ _ .i64 _ _ q rfl rfl (by decide) hq ?_); (try simp only [Act.put, List.setIfInBounds_toArray, List.set_cons_zero, List.set_cons_succ]))
              | ((with_reducible refine at_binD 74 ?_); refine L_give (by rfl) (g_ine 3 _ _ .i64 _ _ true rfl rfl (decide_eq_true hq0) ?_); (try simp only [Act.put, List.setIfInBounds_toArray, List.set_cons_zero, List.set_cons_succ]))
              | ((with_reducible refine at_binD 76 ?_); refine L_give (by rfl) (g_sadd 9 _ _ Z ⟨#[0]⟩ Z2 rfl rfl hZ2.out (by have : (⟨#[0]⟩ : ByteArray).size = 1 := rfl; omega) ?_); (try simp only [Act.put, List.setIfInBounds_toArray, List.set_cons_zero, List.set_cons_succ])))
            go_round
            case rel => exact ⟨Z2, z + 1, rfl, by omega, by have := hz2.out; omega, hz2.out, hZl.out⟩
            case measure => simp only [strLen]; omega
    · have hltI : ¬ (j : Int) < ((l.length : Nat) : Int) := by omega
      have hall : Hid (l.all fmay = true) := by have k := ha.out; rw [List.take_of_length_le (by omega)] at k; exact k
      have hXe : Hid (X.data.toList = T.data.toList ++ l.flatMap fb) := by have k := hX.out; rw [List.take_of_length_le (by omega)] at k; exact k
      clear ha hX
      exact absurd hall.out (by rw [hno.out]; decide)
set_option maxRecDepth 10000 in
set_option maxHeartbeats 2000000 in
theorem rwrite_2 (h : Hd) (l : List (Int × ByteArray)) (ao : Option Addr) (cap : Nat) (w : World) (hi : InH h) (hn : l.length ≤ 140737488355328) (hf : Fis w (.slice ao l.length cap) l) (T : ByteArray) (hT : Hid (T.size = 48)) (hp : Hid (pt h = (T, 0))) (hal : Hid (l.all fmay = true)) (h16 : (16 : Int) < ((l.length : Nat) : Int)) : Calls Try.prog 22 #[.agg (hc h).toArray, .slice ao l.length cap] w fun e w' => e = .returned (.tuple #[.string ByteArray.empty, .int .i64 4]) ∧ Below w.heap.size w w' := by
  go_enter Try.func22, Try.ntmps22
  go_wp2_with (first
    | ((with_reducible refine at_boxD 2 26 ?_); refine L_box 26 _ (hc (h)) rfl ?_; intro w1 t_ b_h; have l_hB_h : w.heap.size ≤ w.heap.size := Nat.le_refl _; have hB : Below w.heap.size w w1 := t_.below (Below.refl _ _) (Nat.le_refl _); clear t_; (try simp only [Act.put, List.setIfInBounds_toArray, List.set_cons_zero, List.set_cons_succ]))
    | ((with_reducible refine at_loadD 10 26 ?_); refine L_give (by rfl) (g_load_all 26 _ (w.heap.size) (hc (h)) 26 _ rfl (b_h) Try.underlying26 rfl (szH hz) ?_); (try simp only [Act.put, List.setIfInBounds_toArray, List.set_cons_zero, List.set_cons_succ]))
    | ((with_reducible refine at_callD 11 ?_); refine L_give (by rfl) (g_call 13 _ _ [.agg (hc (h)).toArray] (kf13 _ _) rfl ((rhput_any h T 0 w1 hi hp).mono ?_)); rintro e w2 ⟨rfl, t_⟩; refine ⟨_, rfl, ?_⟩; replace b_h := b_h.below t_ b_h.lt; replace hB := hB.trans (t_.mono hB.size); clear t_; (try simp only [Act.put, List.setIfInBounds_toArray, List.set_cons_zero, List.set_cons_succ]))
    | ((with_reducible refine at_binD 15 ?_); refine L_give (by rfl) (g_ine 28 _ _ .i64 _ _ false rfl rfl (by decide) ?_); (try simp only [Act.put, List.setIfInBounds_toArray, List.set_cons_zero, List.set_cons_succ])))
  go_loopw [6, 8] (fun s6 i wr => ∃ (j : Nat) (X : ByteArray), j ≤ l.length ∧ i = .int .i64 j ∧ s6 = .string X ∧ X.size ≤ 48 + 1007 * j ∧ X.size % 4 = 0 ∧ Hid (X.data.toList = T.data.toList ++ (l.take j).flatMap fb) ∧ Hid ((l.take j).all fmay = true) ∧ Below w.heap.size w wr) (fun _ i _ => l.length - (intOf i).toNat)
  case atStart => exact ⟨0, T, Nat.zero_le _, rfl, rfl, by have := hT.out; omega, by have := hT.out; omega, by show _ = _; simp, rfl, hB⟩
  case round =>
    clear b_h hB
    obtain ⟨j, X, hj, rfl, rfl, hXs, hX4, hX, ha, hB⟩ := hrel
    by_cases hlt : j < l.length
    · have hltI : (j : Int) < ((l.length : Nat) : Int) := by omega
      obtain ⟨ao2, capx, hv2, hcs⟩ := hf.below hB
      obtain ⟨b, bo, hao, c0, c1⟩ := hcs j hlt
      obtain rfl : ao2 = ao := by injection hv2 with hv2; exact hv2.symm
      subst hao
      clear hcs hv2
      obtain ⟨f, hfE⟩ : ∃ f, l[j] = f := ⟨_, rfl⟩
      rw [hfE] at c0 c1
      replace hfE : Hid (l[j] = f) := hfE
      by_cases k1 : f.1 < 1
      · skip
        have hno : Hid (fmay f = false) := decide_eq_false (fun i => by have := i.1; have := i.2; omega)
        have hno2 : Hid (l.all fmay = false) := all_not l j hlt (by rw [hfE.out]; exact hno.out)
        go_wp2_with (first
          | ((with_reducible refine at_binD 20 ?_); refine L_give (by rfl) (g_ilss 3 _ _ .i64 _ _ true rfl rfl (decide_eq_true hltI) ?_); (try simp only [Act.put, List.setIfInBounds_toArray, List.set_cons_zero, List.set_cons_succ]))
          | ((with_reducible refine at_ixD 25 ?_); refine L_give (by rfl) (g_ixF _ _ b bo _ _ j rfl rfl hlt ?_); (try simp only [Act.put, List.setIfInBounds_toArray, List.set_cons_zero, List.set_cons_succ]))
          | ((with_reducible refine at_fdD 26 ?_); refine L_give (by rfl) (g_fF0 _ b (bo + j * 2) rfl ?_); (try simp only [Act.put, List.setIfInBounds_toArray, List.set_cons_zero, List.set_cons_succ]))
          | ((with_reducible refine at_loadD 27 3 ?_); refine L_give (by rfl) (g_cell3 _ b (bo + j * 2) _ rfl c0 ?_); (try simp only [Act.put, List.setIfInBounds_toArray, List.set_cons_zero, List.set_cons_succ]))
          | ((with_reducible refine at_binD 28 ?_); refine L_give (by rfl) (g_ilss 3 _ _ .i64 _ _ true rfl rfl (decide_eq_true k1) ?_); (try simp only [Act.put, List.setIfInBounds_toArray, List.set_cons_zero, List.set_cons_succ])))
        exact absurd hno2.out (by rw [hal.out]; decide)
      by_cases k2 : 65535 < f.1
      · skip
        have hno : Hid (fmay f = false) := decide_eq_false (fun i => by have := i.1; have := i.2; omega)
        have hno2 : Hid (l.all fmay = false) := all_not l j hlt (by rw [hfE.out]; exact hno.out)
        go_wp2_with (first
          | ((with_reducible refine at_binD 20 ?_); refine L_give (by rfl) (g_ilss 3 _ _ .i64 _ _ true rfl rfl (decide_eq_true hltI) ?_); (try simp only [Act.put, List.setIfInBounds_toArray, List.set_cons_zero, List.set_cons_succ]))
          | ((with_reducible refine at_ixD 25 ?_); refine L_give (by rfl) (g_ixF _ _ b bo _ _ j rfl rfl hlt ?_); (try simp only [Act.put, List.setIfInBounds_toArray, List.set_cons_zero, List.set_cons_succ]))
          | ((with_reducible refine at_fdD 26 ?_); refine L_give (by rfl) (g_fF0 _ b (bo + j * 2) rfl ?_); (try simp only [Act.put, List.setIfInBounds_toArray, List.set_cons_zero, List.set_cons_succ]))
          | ((with_reducible refine at_loadD 27 3 ?_); refine L_give (by rfl) (g_cell3 _ b (bo + j * 2) _ rfl c0 ?_); (try simp only [Act.put, List.setIfInBounds_toArray, List.set_cons_zero, List.set_cons_succ]))
          | ((with_reducible refine at_binD 28 ?_); refine L_give (by rfl) (g_ilss 3 _ _ .i64 _ _ false rfl rfl (decide_eq_false k1) ?_); (try simp only [Act.put, List.setIfInBounds_toArray, List.set_cons_zero, List.set_cons_succ]))
          | ((with_reducible refine at_ixD 32 ?_); refine L_give (by rfl) (g_ixF _ _ b bo _ _ j rfl rfl hlt ?_); (try simp only [Act.put, List.setIfInBounds_toArray, List.set_cons_zero, List.set_cons_succ]))
          | ((with_reducible refine at_fdD 33 ?_); refine L_give (by rfl) (g_fF0 _ b (bo + j * 2) rfl ?_); (try simp only [Act.put, List.setIfInBounds_toArray, List.set_cons_zero, List.set_cons_succ]))
          | ((with_reducible refine at_loadD 34 3 ?_); refine L_give (by rfl) (g_cell3 _ b (bo + j * 2) _ rfl c0 ?_); (try simp only [Act.put, List.setIfInBounds_toArray, List.set_cons_zero, List.set_cons_succ]))
          | ((with_reducible refine at_binD 35 ?_); refine L_give (by rfl) (g_igtr 3 _ _ .i64 _ _ true rfl rfl (decide_eq_true k2) ?_); (try simp only [Act.put, List.setIfInBounds_toArray, List.set_cons_zero, List.set_cons_succ])))
        exact absurd hno2.out (by rw [hal.out]; decide)
      by_cases k3 : (1000 : Int) < (f.2.size : Int)
      · skip
        have hno : Hid (fmay f = false) := decide_eq_false (fun i => by have := i.1; have := i.2; omega)
        have hno2 : Hid (l.all fmay = false) := all_not l j hlt (by rw [hfE.out]; exact hno.out)
        go_wp2_with (first
          | ((with_reducible refine at_binD 20 ?_); refine L_give (by rfl) (g_ilss 3 _ _ .i64 _ _ true rfl rfl (decide_eq_true hltI) ?_); (try simp only [Act.put, List.setIfInBounds_toArray, List.set_cons_zero, List.set_cons_succ]))
          | ((with_reducible refine at_ixD 25 ?_); refine L_give (by rfl) (g_ixF _ _ b bo _ _ j rfl rfl hlt ?_); (try simp only [Act.put, List.setIfInBounds_toArray, List.set_cons_zero, List.set_cons_succ]))
          | ((with_reducible refine at_fdD 26 ?_); refine L_give (by rfl) (g_fF0 _ b (bo + j * 2) rfl ?_); (try simp only [Act.put, List.setIfInBounds_toArray, List.set_cons_zero, List.set_cons_succ]))
          | ((with_reducible refine at_loadD 27 3 ?_); refine L_give (by rfl) (g_cell3 _ b (bo + j * 2) _ rfl c0 ?_); (try simp only [Act.put, List.setIfInBounds_toArray, List.set_cons_zero, List.set_cons_succ]))
          | ((with_reducible refine at_binD 28 ?_); refine L_give (by rfl) (g_ilss 3 _ _ .i64 _ _ false rfl rfl (decide_eq_false k1) ?_); (try simp only [Act.put, List.setIfInBounds_toArray, List.set_cons_zero, List.set_cons_succ]))
          | ((with_reducible refine at_ixD 32 ?_); refine L_give (by rfl) (g_ixF _ _ b bo _ _ j rfl rfl hlt ?_); (try simp only [Act.put, List.setIfInBounds_toArray, List.set_cons_zero, List.set_cons_succ]))
          | ((with_reducible refine at_fdD 33 ?_); refine L_give (by rfl) (g_fF0 _ b (bo + j * 2) rfl ?_); (try simp only [Act.put, List.setIfInBounds_toArray, List.set_cons_zero, List.set_cons_succ]))
          | ((with_reducible refine at_loadD 34 3 ?_); refine L_give (by rfl) (g_cell3 _ b (bo + j * 2) _ rfl c0 ?_); (try simp only [Act.put, List.setIfInBounds_toArray, List.set_cons_zero, List.set_cons_succ]))
          | ((with_reducible refine at_binD 35 ?_); refine L_give (by rfl) (g_igtr 3 _ _ .i64 _ _ false rfl rfl (decide_eq_false k2) ?_); (try simp only [Act.put, List.setIfInBounds_toArray, List.set_cons_zero, List.set_cons_succ]))
          | ((with_reducible refine at_ixD 40 ?_); refine L_give (by rfl) (g_ixF _ _ b bo _ _ j rfl rfl hlt ?_); (try simp only [Act.put, List.setIfInBounds_toArray, List.set_cons_zero, List.set_cons_succ]))
          | ((with_reducible refine at_fdD 41 ?_); refine L_give (by rfl) (g_fF1 _ b (bo + j * 2) rfl ?_); (try simp only [Act.put, List.setIfInBounds_toArray, List.set_cons_zero, List.set_cons_succ]))
          | ((with_reducible refine at_loadD 42 9 ?_); refine L_give (by rfl) (g_cell9 _ b (bo + j * 2 + 1) _ rfl c1 ?_); (try simp only [Act.put, List.setIfInBounds_toArray, List.set_cons_zero, List.set_cons_succ]))
          | ((with_reducible refine at_callD 43 ?_); refine L_give (by rfl) (g_slen _ f.2 _ rfl rfl ?_); (try simp only [Act.put, List.setIfInBounds_toArray, List.set_cons_zero, List.set_cons_succ]))
          | ((with_reducible refine at_binD 44 ?_); refine L_give (by rfl) (g_igtr 3 _ _ .i64 _ _ true rfl rfl (decide_eq_true k3) ?_); (try simp only [Act.put, List.setIfInBounds_toArray, List.set_cons_zero, List.set_cons_succ])))
        exact absurd hno2.out (by rw [hal.out]; decide)
      have hfm : Hid (FMays f) := by show FMays f; exact ⟨⟨by omega, by omega⟩, by omega⟩
      have hyes : Hid (fmay f = true) := decide_eq_true hfm.out
      obtain ⟨m, hm⟩ : ∃ m : Int, Hid (IntKind.i64.wrap (4 + (f.2.size : Int)) = m) := ⟨_, rfl⟩
      have hmE : m = 4 + (f.2.size : Int) := by rw [← hm.out]; exact wrap_i64 _ (by omega) (by omega)
      have hm2 : Hid (IntKind.u64.wrap m = m) := wraps_u64 _ (by omega) (by omega)
      have hk2 : Hid (IntKind.u64.wrap f.1 = f.1) := wraps_u64 _ (by omega) (by omega)
      obtain ⟨A, hA⟩ : ∃ A, Hid ((⟨(putL f.1.toNat 2).toArray⟩ : ByteArray) = A) := ⟨_, rfl⟩
      obtain ⟨B, hBb⟩ : ∃ B, Hid ((⟨(putL m.toNat 2).toArray⟩ : ByteArray) = B) := ⟨_, rfl⟩
      obtain ⟨C, hC⟩ : ∃ C, Hid (A ++ B = C) := ⟨_, rfl⟩
      obtain ⟨D, hD⟩ : ∃ D, Hid (C ++ f.2 = D) := ⟨_, rfl⟩
      obtain ⟨Y, hY⟩ : ∃ Y, Hid (X ++ D = Y) := ⟨_, rfl⟩
      have zA : A.size = 2 := by rw [← hA.out, size_toArray, putL_length]
      have zB : B.size = 2 := by rw [← hBb.out, size_toArray, putL_length]
      have zC : C.size = 4 := by rw [← hC.out, size_app]; omega
      have zD : D.size = 4 + f.2.size := by rw [← hD.out, size_app]; omega
      have zY : Y.size = X.size + D.size := by rw [← hY.out, size_app]
      have hfb : Hid (fb f = pad4 D.data.toList) := by show _ = _; rw [fb, ← hD.out, list_app, ← hC.out, list_app, ← hA.out, ← hBb.out, hmE, show (4 + (f.2.size : Int)).toNat = 4 + f.2.size by omega, List.append_assoc]
      go_wp2_with (first
        | ((with_reducible refine at_binD 20 ?_); refine L_give (by rfl) (g_ilss 3 _ _ .i64 _ _ true rfl rfl (decide_eq_true hltI) ?_); (try simp only [Act.put, List.setIfInBounds_toArray, List.set_cons_zero, List.set_cons_succ]))
        | ((with_reducible refine at_ixD 25 ?_); refine L_give (by rfl) (g_ixF _ _ b bo _ _ j rfl rfl hlt ?_); (try simp only [Act.put, List.setIfInBounds_toArray, List.set_cons_zero, List.set_cons_succ]))
        | ((with_reducible refine at_fdD 26 ?_); refine L_give (by rfl) (g_fF0 _ b (bo + j * 2) rfl ?_); (try simp only [Act.put, List.setIfInBounds_toArray, List.set_cons_zero, List.set_cons_succ]))
        | ((with_reducible refine at_loadD 27 3 ?_); refine L_give (by rfl) (g_cell3 _ b (bo + j * 2) _ rfl c0 ?_); (try simp only [Act.put, List.setIfInBounds_toArray, List.set_cons_zero, List.set_cons_succ]))
        | ((with_reducible refine at_binD 28 ?_); refine L_give (by rfl) (g_ilss 3 _ _ .i64 _ _ false rfl rfl (decide_eq_false k1) ?_); (try simp only [Act.put, List.setIfInBounds_toArray, List.set_cons_zero, List.set_cons_succ]))
        | ((with_reducible refine at_ixD 32 ?_); refine L_give (by rfl) (g_ixF _ _ b bo _ _ j rfl rfl hlt ?_); (try simp only [Act.put, List.setIfInBounds_toArray, List.set_cons_zero, List.set_cons_succ]))
        | ((with_reducible refine at_fdD 33 ?_); refine L_give (by rfl) (g_fF0 _ b (bo + j * 2) rfl ?_); (try simp only [Act.put, List.setIfInBounds_toArray, List.set_cons_zero, List.set_cons_succ]))
        | ((with_reducible refine at_loadD 34 3 ?_); refine L_give (by rfl) (g_cell3 _ b (bo + j * 2) _ rfl c0 ?_); (try simp only [Act.put, List.setIfInBounds_toArray, List.set_cons_zero, List.set_cons_succ]))
        | ((with_reducible refine at_binD 35 ?_); refine L_give (by rfl) (g_igtr 3 _ _ .i64 _ _ false rfl rfl (decide_eq_false k2) ?_); (try simp only [Act.put, List.setIfInBounds_toArray, List.set_cons_zero, List.set_cons_succ]))
        | ((with_reducible refine at_ixD 40 ?_); refine L_give (by rfl) (g_ixF _ _ b bo _ _ j rfl rfl hlt ?_); (try simp only [Act.put, List.setIfInBounds_toArray, List.set_cons_zero, List.set_cons_succ]))
        | ((with_reducible refine at_fdD 41 ?_); refine L_give (by rfl) (g_fF1 _ b (bo + j * 2) rfl ?_); (try simp only [Act.put, List.setIfInBounds_toArray, List.set_cons_zero, List.set_cons_succ]))
        | ((with_reducible refine at_loadD 42 9 ?_); refine L_give (by rfl) (g_cell9 _ b (bo + j * 2 + 1) _ rfl c1 ?_); (try simp only [Act.put, List.setIfInBounds_toArray, List.set_cons_zero, List.set_cons_succ]))
        | ((with_reducible refine at_callD 43 ?_); refine L_give (by rfl) (g_slen _ f.2 _ rfl rfl ?_); (try simp only [Act.put, List.setIfInBounds_toArray, List.set_cons_zero, List.set_cons_succ]))
        | ((with_reducible refine at_binD 44 ?_); refine L_give (by rfl) (g_igtr 3 _ _ .i64 _ _ false rfl rfl (decide_eq_false k3) ?_); (try simp only [Act.put, List.setIfInBounds_toArray, List.set_cons_zero, List.set_cons_succ]))
        | (refine stop_region 9 ?_; intro X2 hX2))
      refine hX2.out ?_
      clear hX2 X2
      refine wp_region_lateF 25 (by kernel_rfl) (by kernel_rfl) (by rfl) [.string X, .slice (some ⟨b, bo, none⟩) l.length cap, .int .i64 (j : Int), .pointer (some ⟨b, bo + j * 2, none⟩), .pointer (some ⟨b, bo + j * 2, none⟩), .int .i64 f.1, .int .u64 f.1, .string A, .slice (some ⟨b, bo, none⟩) l.length cap, .int .i64 (j : Int), .pointer (some ⟨b, bo + j * 2, none⟩), .pointer (some ⟨b, bo + j * 2 + 1, none⟩), .string f.2, .int .i64 (f.2.size : Int), .int .i64 m, .int .u64 m, .string B, .string C, .slice (some ⟨b, bo, none⟩) l.length cap, .int .i64 (j : Int), .pointer (some ⟨b, bo + j * 2, none⟩), .pointer (some ⟨b, bo + j * 2 + 1, none⟩), .string f.2, .string D, .string Y, .string Y] (by rfl) (fun w' => Below wr.heap.size wr w') (Below.refl _ _).drew ?_ ?_
      · simp only [List.take_succ_cons, List.take_zero, fullL, Act.put, List.setIfInBounds_toArray, List.set_cons_succ, List.set_cons_zero]
        intro i o ho wx hw
        rcases i with _ | _ | _ | _ | _ | _ | _ | _ | _ | _ | _ | _ | _ | _ | _ | _ | _ | _ | _ | _ | _ | _ | _ | _ | _ | _ | i
        · obtain rfl := Option.some.inj ho; exact g_move _ _ rfl ⟨rfl, hw⟩
        · obtain rfl := Option.some.inj ho; exact g_move _ _ rfl ⟨rfl, hw⟩
        · obtain rfl := Option.some.inj ho; exact g_move _ _ rfl ⟨rfl, hw⟩
        · obtain rfl := Option.some.inj ho; exact g_ixF _ _ b bo _ _ j rfl rfl hlt ⟨rfl, hw⟩
        · obtain rfl := Option.some.inj ho; exact g_fF0 _ b (bo + j * 2) rfl ⟨rfl, hw⟩
        · obtain rfl := Option.some.inj ho; exact g_cell3 _ b (bo + j * 2) _ rfl (by rw [hw.cell (World.block_lt_of_cell? wr _ c0)]; exact c0) ⟨rfl, hw⟩
        · obtain rfl := Option.some.inj ho; exact g_cv_3_23 _ _ _ rfl hk2.out ⟨rfl, hw⟩
        · obtain rfl := Option.some.inj ho; exact g_call 30 _ _ [.int .u64 f.1, .int .i64 ((2 : Nat) : Int)] (kf30 _ _) rfl ((rput_x f.1 2 A wx (by decide) (by omega) (by omega) hA).mono fun _ _ ⟨h1, h2⟩ => ⟨_, h1, rfl, hw.trans (h2.mono hw.size)⟩)
        · obtain rfl := Option.some.inj ho; exact g_move _ _ rfl ⟨rfl, hw⟩
        · obtain rfl := Option.some.inj ho; exact g_move _ _ rfl ⟨rfl, hw⟩
        · obtain rfl := Option.some.inj ho; exact g_ixF _ _ b bo _ _ j rfl rfl hlt ⟨rfl, hw⟩
        · obtain rfl := Option.some.inj ho; exact g_fF1 _ b (bo + j * 2) rfl ⟨rfl, hw⟩
        · obtain rfl := Option.some.inj ho; exact g_cell9 _ b (bo + j * 2 + 1) _ rfl (by rw [hw.cell (World.block_lt_of_cell? wr _ c1)]; exact c1) ⟨rfl, hw⟩
        · obtain rfl := Option.some.inj ho; exact g_slen _ f.2 _ rfl rfl ⟨rfl, hw⟩
        · obtain rfl := Option.some.inj ho; exact g_iadd 3 _ _ .i64 _ _ m rfl rfl hm.out ⟨rfl, hw⟩
        · obtain rfl := Option.some.inj ho; exact g_cv_3_23 _ _ _ rfl hm2.out ⟨rfl, hw⟩
        · obtain rfl := Option.some.inj ho; exact g_call 30 _ _ [.int .u64 m, .int .i64 ((2 : Nat) : Int)] (kf30 _ _) rfl ((rput_x m 2 B wx (by decide) (by omega) (by omega) hBb).mono fun _ _ ⟨h1, h2⟩ => ⟨_, h1, rfl, hw.trans (h2.mono hw.size)⟩)
        · obtain rfl := Option.some.inj ho; exact g_sadd 9 _ _ A B C rfl rfl hC.out (by omega) ⟨rfl, hw⟩
        · obtain rfl := Option.some.inj ho; exact g_move _ _ rfl ⟨rfl, hw⟩
        · obtain rfl := Option.some.inj ho; exact g_move _ _ rfl ⟨rfl, hw⟩
        · obtain rfl := Option.some.inj ho; exact g_ixF _ _ b bo _ _ j rfl rfl hlt ⟨rfl, hw⟩
        · obtain rfl := Option.some.inj ho; exact g_fF1 _ b (bo + j * 2) rfl ⟨rfl, hw⟩
        · obtain rfl := Option.some.inj ho; exact g_cell9 _ b (bo + j * 2 + 1) _ rfl (by rw [hw.cell (World.block_lt_of_cell? wr _ c1)]; exact c1) ⟨rfl, hw⟩
        · obtain rfl := Option.some.inj ho; exact g_sadd 9 _ _ C f.2 D rfl rfl hD.out (by omega) ⟨rfl, hw⟩
        · obtain rfl := Option.some.inj ho; exact g_sadd 9 _ _ X D Y rfl rfl hY.out (by omega) ⟨rfl, hw⟩
        · obtain rfl := Option.some.inj ho; exact g_assign _ _ rfl ⟨rfl, hw⟩
        · simp at ho
      · simp only [fullL, Act.put, List.setIfInBounds_toArray, List.set_cons_succ, List.set_cons_zero]
        intro w1 t_
        replace hB := hB.trans (t_.mono hB.size)
        clear t_ c0 c1
        go_wp2_with fail
        go_loop [6] (fun s6 => ∃ (Z : ByteArray) (z : Nat), s6 = .string Z ∧ Z.size = Y.size + z ∧ z ≤ 3 ∧ Hid (z ≤ (4 - Y.size % 4) % 4) ∧ Hid (Z.data.toList = Y.data.toList ++ List.replicate z 0)) (fun s6 => (4 - strLen s6 % 4) % 4)
        case atStart => exact ⟨Y, 0, rfl, rfl, by omega, Nat.zero_le _, by show _ = _; simp⟩
        case round =>
          obtain ⟨Z, z, rfl, zZ, hz3, hz, hZ⟩ := hrel
          by_cases h4 : Z.size % 4 = 0
          · have h4I : ((Z.size : Nat) : Int).tmod 4 = 0 := by rw [Int.tmod_eq_emod_of_nonneg (by omega)]; omega
            have hend : Hid (Z.data.toList = T.data.toList ++ (l.take (j + 1)).flatMap fb) := by
              show _ = _
              rw [pad_end X.data.toList D.data.toList Y.data.toList Z.data.toList z (by rw [← Lib.size_eq]; exact hX4) (by rw [← hY.out, list_app]) hZ.out (by rw [← Lib.size_eq]; exact hz.out) (by rw [← Lib.size_eq]; exact h4), ← hfb.out, hX.out, flat_take l j hlt, hfE.out, List.append_assoc]
            have hZs : Z.size ≤ 48 + 1007 * (j + 1) := by omega
            go_wp2_with (first
              | ((with_reducible refine at_binD 73 ?_); refine L_give (by rfl) (g_irem 3 _ _ .i64 _ _ 0 rfl rfl (by decide) h4I ?_); (try simp only [Act.put, List.setIfInBounds_toArray, List.set_cons_zero, List.set_cons_succ]))
              | ((with_reducible refine at_binD 74 ?_); refine L_give (by rfl) (g_ine 3 _ _ .i64 _ _ false rfl rfl (by decide) ?_); (try simp only [Act.put, List.setIfInBounds_toArray, List.set_cons_zero, List.set_cons_succ])))
            go_roundw
            case rel => exact ⟨j + 1, Z, hlt, by go_num, rfl, hZs, h4, hend, all_take l j hlt ha.out (by rw [hfE.out]; exact hyes.out), hB⟩
            case measure => simp [intOf]; omega
          · obtain ⟨q, hq⟩ : ∃ q : Int, ((Z.size : Nat) : Int).tmod 4 = q := ⟨_, rfl⟩
            have hq0 : q ≠ 0 := by rw [← hq, Int.tmod_eq_emod_of_nonneg (by omega)]; omega
            obtain ⟨Z2, hZ2⟩ : ∃ Z2, Hid (Z ++ ⟨#[0]⟩ = Z2) := ⟨_, rfl⟩
            have zZ2 : Z2.size = Z.size + 1 := by rw [← hZ2.out, size_app]; rfl
            have hz2 : Hid (z + 1 ≤ (4 - Y.size % 4) % 4) := by show _ ≤ _; have := hz.out; omega
            have hZl : Hid (Z2.data.toList = Y.data.toList ++ List.replicate (z + 1) 0) := by show _ = _; rw [← hZ2.out, list_app, hZ.out, List.append_assoc, List.replicate_succ']
            go_wp2_with (first
              | ((with_reducible refine at_binD 73 ?_); refine L_give (by rfl) (g_irem 3 _ _ .i64 _ _ q rfl rfl (by decide) hq ?_); (try simp only [Act.put, List.setIfInBounds_toArray, List.set_cons_zero, List.set_cons_succ]))
              | ((with_reducible refine at_binD 74 ?_); refine L_give (by rfl) (g_ine 3 _ _ .i64 _ _ true rfl rfl (decide_eq_true hq0) ?_); (try simp only [Act.put, List.setIfInBounds_toArray, List.set_cons_zero, List.set_cons_succ]))
              | ((with_reducible refine at_binD 76 ?_); refine L_give (by rfl) (g_sadd 9 _ _ Z ⟨#[0]⟩ Z2 rfl rfl hZ2.out (by have : (⟨#[0]⟩ : ByteArray).size = 1 := rfl; omega) ?_); (try simp only [Act.put, List.setIfInBounds_toArray, List.set_cons_zero, List.set_cons_succ])))
            go_round
            case rel => exact ⟨Z2, z + 1, rfl, by omega, by have := hz2.out; omega, hz2.out, hZl.out⟩
            case measure => simp only [strLen]; omega
    · have hltI : ¬ (j : Int) < ((l.length : Nat) : Int) := by omega
      have hall : Hid (l.all fmay = true) := by have k := ha.out; rw [List.take_of_length_le (by omega)] at k; exact k
      have hXe : Hid (X.data.toList = T.data.toList ++ l.flatMap fb) := by have k := hX.out; rw [List.take_of_length_le (by omega)] at k; exact k
      clear ha hX
      go_wp2_with (first
        | ((with_reducible refine at_binD 20 ?_); refine L_give (by rfl) (g_ilss 3 _ _ .i64 _ _ false rfl rfl (decide_eq_false hltI) ?_); (try simp only [Act.put, List.setIfInBounds_toArray, List.set_cons_zero, List.set_cons_succ]))
        | ((with_reducible refine at_binD 79 ?_); refine L_give (by rfl) (g_igtr 3 _ _ .i64 _ _ true rfl rfl (decide_eq_true h16) ?_); (try simp only [Act.put, List.setIfInBounds_toArray, List.set_cons_zero, List.set_cons_succ])))
      go_ret2
      exact ⟨rfl, hB⟩
set_option maxRecDepth 10000 in
set_option maxHeartbeats 2000000 in
theorem rwrite_3 (h : Hd) (l : List (Int × ByteArray)) (ao : Option Addr) (cap : Nat) (w : World) (hi : InH h) (hn : l.length ≤ 140737488355328) (hf : Fis w (.slice ao l.length cap) l) (T Z0 : ByteArray) (hT : Hid (T.size = 48)) (hp : Hid (pt h = (T, 0))) (hal : Hid (l.all fmay = true)) (h16 : ¬ (16 : Int) < ((l.length : Nat) : Int)) (hZ0 : Hid (Z0.data.toList = T.data.toList ++ l.flatMap fb)) : Calls Try.prog 22 #[.agg (hc h).toArray, .slice ao l.length cap] w fun e w' => e = .returned (.tuple #[.string Z0, .int .i64 0]) ∧ Below w.heap.size w w' := by
  go_enter Try.func22, Try.ntmps22
  go_wp2_with (first
    | ((with_reducible refine at_boxD 2 26 ?_); refine L_box 26 _ (hc (h)) rfl ?_; intro w1 t_ b_h; have l_hB_h : w.heap.size ≤ w.heap.size := Nat.le_refl _; have hB : Below w.heap.size w w1 := t_.below (Below.refl _ _) (Nat.le_refl _); clear t_; (try simp only [Act.put, List.setIfInBounds_toArray, List.set_cons_zero, List.set_cons_succ]))
    | ((with_reducible refine at_loadD 10 26 ?_); refine L_give (by rfl) (g_load_all 26 _ (w.heap.size) (hc (h)) 26 _ rfl (b_h) Try.underlying26 rfl (szH hz) ?_); (try simp only [Act.put, List.setIfInBounds_toArray, List.set_cons_zero, List.set_cons_succ]))
    | ((with_reducible refine at_callD 11 ?_); refine L_give (by rfl) (g_call 13 _ _ [.agg (hc (h)).toArray] (kf13 _ _) rfl ((rhput_any h T 0 w1 hi hp).mono ?_)); rintro e w2 ⟨rfl, t_⟩; refine ⟨_, rfl, ?_⟩; replace b_h := b_h.below t_ b_h.lt; replace hB := hB.trans (t_.mono hB.size); clear t_; (try simp only [Act.put, List.setIfInBounds_toArray, List.set_cons_zero, List.set_cons_succ]))
    | ((with_reducible refine at_binD 15 ?_); refine L_give (by rfl) (g_ine 28 _ _ .i64 _ _ false rfl rfl (by decide) ?_); (try simp only [Act.put, List.setIfInBounds_toArray, List.set_cons_zero, List.set_cons_succ])))
  go_loopw [6, 8] (fun s6 i wr => ∃ (j : Nat) (X : ByteArray), j ≤ l.length ∧ i = .int .i64 j ∧ s6 = .string X ∧ X.size ≤ 48 + 1007 * j ∧ X.size % 4 = 0 ∧ Hid (X.data.toList = T.data.toList ++ (l.take j).flatMap fb) ∧ Hid ((l.take j).all fmay = true) ∧ Below w.heap.size w wr) (fun _ i _ => l.length - (intOf i).toNat)
  case atStart => exact ⟨0, T, Nat.zero_le _, rfl, rfl, by have := hT.out; omega, by have := hT.out; omega, by show _ = _; simp, rfl, hB⟩
  case round =>
    clear b_h hB
    obtain ⟨j, X, hj, rfl, rfl, hXs, hX4, hX, ha, hB⟩ := hrel
    by_cases hlt : j < l.length
    · have hltI : (j : Int) < ((l.length : Nat) : Int) := by omega
      obtain ⟨ao2, capx, hv2, hcs⟩ := hf.below hB
      obtain ⟨b, bo, hao, c0, c1⟩ := hcs j hlt
      obtain rfl : ao2 = ao := by injection hv2 with hv2; exact hv2.symm
      subst hao
      clear hcs hv2
      obtain ⟨f, hfE⟩ : ∃ f, l[j] = f := ⟨_, rfl⟩
      rw [hfE] at c0 c1
      replace hfE : Hid (l[j] = f) := hfE
      by_cases k1 : f.1 < 1
      · skip
        have hno : Hid (fmay f = false) := decide_eq_false (fun i => by have := i.1; have := i.2; omega)
        have hno2 : Hid (l.all fmay = false) := all_not l j hlt (by rw [hfE.out]; exact hno.out)
        go_wp2_with (first
          | ((with_reducible refine at_binD 20 ?_); refine L_give (by rfl) (g_ilss 3 _ _ .i64 _ _ true rfl rfl (decide_eq_true hltI) ?_); (try simp only [Act.put, List.setIfInBounds_toArray, List.set_cons_zero, List.set_cons_succ]))
          | ((with_reducible refine at_ixD 25 ?_); refine L_give (by rfl) (g_ixF _ _ b bo _ _ j rfl rfl hlt ?_); (try simp only [Act.put, List.setIfInBounds_toArray, List.set_cons_zero, List.set_cons_succ]))
          | ((with_reducible refine at_fdD 26 ?_); refine L_give (by rfl) (g_fF0 _ b (bo + j * 2) rfl ?_); (try simp only [Act.put, List.setIfInBounds_toArray, List.set_cons_zero, List.set_cons_succ]))
          | ((with_reducible refine at_loadD 27 3 ?_); refine L_give (by rfl) (g_cell3 _ b (bo + j * 2) _ rfl c0 ?_); (try simp only [Act.put, List.setIfInBounds_toArray, List.set_cons_zero, List.set_cons_succ]))
          | ((with_reducible refine at_binD 28 ?_); refine L_give (by rfl) (g_ilss 3 _ _ .i64 _ _ true rfl rfl (decide_eq_true k1) ?_); (try simp only [Act.put, List.setIfInBounds_toArray, List.set_cons_zero, List.set_cons_succ])))
        exact absurd hno2.out (by rw [hal.out]; decide)
      by_cases k2 : 65535 < f.1
      · skip
        have hno : Hid (fmay f = false) := decide_eq_false (fun i => by have := i.1; have := i.2; omega)
        have hno2 : Hid (l.all fmay = false) := all_not l j hlt (by rw [hfE.out]; exact hno.out)
        go_wp2_with (first
          | ((with_reducible refine at_binD 20 ?_); refine L_give (by rfl) (g_ilss 3 _ _ .i64 _ _ true rfl rfl (decide_eq_true hltI) ?_); (try simp only [Act.put, List.setIfInBounds_toArray, List.set_cons_zero, List.set_cons_succ]))
          | ((with_reducible refine at_ixD 25 ?_); refine L_give (by rfl) (g_ixF _ _ b bo _ _ j rfl rfl hlt ?_); (try simp only [Act.put, List.setIfInBounds_toArray, List.set_cons_zero, List.set_cons_succ]))
          | ((with_reducible refine at_fdD 26 ?_); refine L_give (by rfl) (g_fF0 _ b (bo + j * 2) rfl ?_); (try simp only [Act.put, List.setIfInBounds_toArray, List.set_cons_zero, List.set_cons_succ]))
          | ((with_reducible refine at_loadD 27 3 ?_); refine L_give (by rfl) (g_cell3 _ b (bo + j * 2) _ rfl c0 ?_); (try simp only [Act.put, List.setIfInBounds_toArray, List.set_cons_zero, List.set_cons_succ]))
          | ((with_reducible refine at_binD 28 ?_); refine L_give (by rfl) (g_ilss 3 _ _ .i64 _ _ false rfl rfl (decide_eq_false k1) ?_); (try simp only [Act.put, List.setIfInBounds_toArray, List.set_cons_zero, List.set_cons_succ]))
          | ((with_reducible refine at_ixD 32 ?_); refine L_give (by rfl) (g_ixF _ _ b bo _ _ j rfl rfl hlt ?_); (try simp only [Act.put, List.setIfInBounds_toArray, List.set_cons_zero, List.set_cons_succ]))
          | ((with_reducible refine at_fdD 33 ?_); refine L_give (by rfl) (g_fF0 _ b (bo + j * 2) rfl ?_); (try simp only [Act.put, List.setIfInBounds_toArray, List.set_cons_zero, List.set_cons_succ]))
          | ((with_reducible refine at_loadD 34 3 ?_); refine L_give (by rfl) (g_cell3 _ b (bo + j * 2) _ rfl c0 ?_); (try simp only [Act.put, List.setIfInBounds_toArray, List.set_cons_zero, List.set_cons_succ]))
          | ((with_reducible refine at_binD 35 ?_); refine L_give (by rfl) (g_igtr 3 _ _ .i64 _ _ true rfl rfl (decide_eq_true k2) ?_); (try simp only [Act.put, List.setIfInBounds_toArray, List.set_cons_zero, List.set_cons_succ])))
        exact absurd hno2.out (by rw [hal.out]; decide)
      by_cases k3 : (1000 : Int) < (f.2.size : Int)
      · skip
        have hno : Hid (fmay f = false) := decide_eq_false (fun i => by have := i.1; have := i.2; omega)
        have hno2 : Hid (l.all fmay = false) := all_not l j hlt (by rw [hfE.out]; exact hno.out)
        go_wp2_with (first
          | ((with_reducible refine at_binD 20 ?_); refine L_give (by rfl) (g_ilss 3 _ _ .i64 _ _ true rfl rfl (decide_eq_true hltI) ?_); (try simp only [Act.put, List.setIfInBounds_toArray, List.set_cons_zero, List.set_cons_succ]))
          | ((with_reducible refine at_ixD 25 ?_); refine L_give (by rfl) (g_ixF _ _ b bo _ _ j rfl rfl hlt ?_); (try simp only [Act.put, List.setIfInBounds_toArray, List.set_cons_zero, List.set_cons_succ]))
          | ((with_reducible refine at_fdD 26 ?_); refine L_give (by rfl) (g_fF0 _ b (bo + j * 2) rfl ?_); (try simp only [Act.put, List.setIfInBounds_toArray, List.set_cons_zero, List.set_cons_succ]))
          | ((with_reducible refine at_loadD 27 3 ?_); refine L_give (by rfl) (g_cell3 _ b (bo + j * 2) _ rfl c0 ?_); (try simp only [Act.put, List.setIfInBounds_toArray, List.set_cons_zero, List.set_cons_succ]))
          | ((with_reducible refine at_binD 28 ?_); refine L_give (by rfl) (g_ilss 3 _ _ .i64 _ _ false rfl rfl (decide_eq_false k1) ?_); (try simp only [Act.put, List.setIfInBounds_toArray, List.set_cons_zero, List.set_cons_succ]))
          | ((with_reducible refine at_ixD 32 ?_); refine L_give (by rfl) (g_ixF _ _ b bo _ _ j rfl rfl hlt ?_); (try simp only [Act.put, List.setIfInBounds_toArray, List.set_cons_zero, List.set_cons_succ]))
          | ((with_reducible refine at_fdD 33 ?_); refine L_give (by rfl) (g_fF0 _ b (bo + j * 2) rfl ?_); (try simp only [Act.put, List.setIfInBounds_toArray, List.set_cons_zero, List.set_cons_succ]))
          | ((with_reducible refine at_loadD 34 3 ?_); refine L_give (by rfl) (g_cell3 _ b (bo + j * 2) _ rfl c0 ?_); (try simp only [Act.put, List.setIfInBounds_toArray, List.set_cons_zero, List.set_cons_succ]))
          | ((with_reducible refine at_binD 35 ?_); refine L_give (by rfl) (g_igtr 3 _ _ .i64 _ _ false rfl rfl (decide_eq_false k2) ?_); (try simp only [Act.put, List.setIfInBounds_toArray, List.set_cons_zero, List.set_cons_succ]))
          | ((with_reducible refine at_ixD 40 ?_); refine L_give (by rfl) (g_ixF _ _ b bo _ _ j rfl rfl hlt ?_); (try simp only [Act.put, List.setIfInBounds_toArray, List.set_cons_zero, List.set_cons_succ]))
          | ((with_reducible refine at_fdD 41 ?_); refine L_give (by rfl) (g_fF1 _ b (bo + j * 2) rfl ?_); (try simp only [Act.put, List.setIfInBounds_toArray, List.set_cons_zero, List.set_cons_succ]))
          | ((with_reducible refine at_loadD 42 9 ?_); refine L_give (by rfl) (g_cell9 _ b (bo + j * 2 + 1) _ rfl c1 ?_); (try simp only [Act.put, List.setIfInBounds_toArray, List.set_cons_zero, List.set_cons_succ]))
          | ((with_reducible refine at_callD 43 ?_); refine L_give (by rfl) (g_slen _ f.2 _ rfl rfl ?_); (try simp only [Act.put, List.setIfInBounds_toArray, List.set_cons_zero, List.set_cons_succ]))
          | ((with_reducible refine at_binD 44 ?_); refine L_give (by rfl) (g_igtr 3 _ _ .i64 _ _ true rfl rfl (decide_eq_true k3) ?_); (try simp only [Act.put, List.setIfInBounds_toArray, List.set_cons_zero, List.set_cons_succ])))
        exact absurd hno2.out (by rw [hal.out]; decide)
      have hfm : Hid (FMays f) := by show FMays f; exact ⟨⟨by omega, by omega⟩, by omega⟩
      have hyes : Hid (fmay f = true) := decide_eq_true hfm.out
      obtain ⟨m, hm⟩ : ∃ m : Int, Hid (IntKind.i64.wrap (4 + (f.2.size : Int)) = m) := ⟨_, rfl⟩
      have hmE : m = 4 + (f.2.size : Int) := by rw [← hm.out]; exact wrap_i64 _ (by omega) (by omega)
      have hm2 : Hid (IntKind.u64.wrap m = m) := wraps_u64 _ (by omega) (by omega)
      have hk2 : Hid (IntKind.u64.wrap f.1 = f.1) := wraps_u64 _ (by omega) (by omega)
      obtain ⟨A, hA⟩ : ∃ A, Hid ((⟨(putL f.1.toNat 2).toArray⟩ : ByteArray) = A) := ⟨_, rfl⟩
      obtain ⟨B, hBb⟩ : ∃ B, Hid ((⟨(putL m.toNat 2).toArray⟩ : ByteArray) = B) := ⟨_, rfl⟩
      obtain ⟨C, hC⟩ : ∃ C, Hid (A ++ B = C) := ⟨_, rfl⟩
      obtain ⟨D, hD⟩ : ∃ D, Hid (C ++ f.2 = D) := ⟨_, rfl⟩
      obtain ⟨Y, hY⟩ : ∃ Y, Hid (X ++ D = Y) := ⟨_, rfl⟩
      have zA : A.size = 2 := by rw [← hA.out, size_toArray, putL_length]
      have zB : B.size = 2 := by rw [← hBb.out, size_toArray, putL_length]
      have zC : C.size = 4 := by rw [← hC.out, size_app]; omega
      have zD : D.size = 4 + f.2.size := by rw [← hD.out, size_app]; omega
      have zY : Y.size = X.size + D.size := by rw [← hY.out, size_app]
      have hfb : Hid (fb f = pad4 D.data.toList) := by show _ = _; rw [fb, ← hD.out, list_app, ← hC.out, list_app, ← hA.out, ← hBb.out, hmE, show (4 + (f.2.size : Int)).toNat = 4 + f.2.size by omega, List.append_assoc]
      go_wp2_with (first
        | ((with_reducible refine at_binD 20 ?_); refine L_give (by rfl) (g_ilss 3 _ _ .i64 _ _ true rfl rfl (decide_eq_true hltI) ?_); (try simp only [Act.put, List.setIfInBounds_toArray, List.set_cons_zero, List.set_cons_succ]))
        | ((with_reducible refine at_ixD 25 ?_); refine L_give (by rfl) (g_ixF _ _ b bo _ _ j rfl rfl hlt ?_); (try simp only [Act.put, List.setIfInBounds_toArray, List.set_cons_zero, List.set_cons_succ]))
        | ((with_reducible refine at_fdD 26 ?_); refine L_give (by rfl) (g_fF0 _ b (bo + j * 2) rfl ?_); (try simp only [Act.put, List.setIfInBounds_toArray, List.set_cons_zero, List.set_cons_succ]))
        | ((with_reducible refine at_loadD 27 3 ?_); refine L_give (by rfl) (g_cell3 _ b (bo + j * 2) _ rfl c0 ?_); (try simp only [Act.put, List.setIfInBounds_toArray, List.set_cons_zero, List.set_cons_succ]))
        | ((with_reducible refine at_binD 28 ?_); refine L_give (by rfl) (g_ilss 3 _ _ .i64 _ _ false rfl rfl (decide_eq_false k1) ?_); (try simp only [Act.put, List.setIfInBounds_toArray, List.set_cons_zero, List.set_cons_succ]))
        | ((with_reducible refine at_ixD 32 ?_); refine L_give (by rfl) (g_ixF _ _ b bo _ _ j rfl rfl hlt ?_); (try simp only [Act.put, List.setIfInBounds_toArray, List.set_cons_zero, List.set_cons_succ]))
        | ((with_reducible refine at_fdD 33 ?_); refine L_give (by rfl) (g_fF0 _ b (bo + j * 2) rfl ?_); (try simp only [Act.put, List.setIfInBounds_toArray, List.set_cons_zero, List.set_cons_succ]))
        | ((with_reducible refine at_loadD 34 3 ?_); refine L_give (by rfl) (g_cell3 _ b (bo + j * 2) _ rfl c0 ?_); (try simp only [Act.put, List.setIfInBounds_toArray, List.set_cons_zero, List.set_cons_succ]))
        | ((with_reducible refine at_binD 35 ?_); refine L_give (by rfl) (g_igtr 3 _ _ .i64 _ _ false rfl rfl (decide_eq_false k2) ?_); (try simp only [Act.put, List.setIfInBounds_toArray, List.set_cons_zero, List.set_cons_succ]))
        | ((with_reducible refine at_ixD 40 ?_); refine L_give (by rfl) (g_ixF _ _ b bo _ _ j rfl rfl hlt ?_); (try simp only [Act.put, List.setIfInBounds_toArray, List.set_cons_zero, List.set_cons_succ]))
        | ((with_reducible refine at_fdD 41 ?_); refine L_give (by rfl) (g_fF1 _ b (bo + j * 2) rfl ?_); (try simp only [Act.put, List.setIfInBounds_toArray, List.set_cons_zero, List.set_cons_succ]))
        | ((with_reducible refine at_loadD 42 9 ?_); refine L_give (by rfl) (g_cell9 _ b (bo + j * 2 + 1) _ rfl c1 ?_); (try simp only [Act.put, List.setIfInBounds_toArray, List.set_cons_zero, List.set_cons_succ]))
        | ((with_reducible refine at_callD 43 ?_); refine L_give (by rfl) (g_slen _ f.2 _ rfl rfl ?_); (try simp only [Act.put, List.setIfInBounds_toArray, List.set_cons_zero, List.set_cons_succ]))
        | ((with_reducible refine at_binD 44 ?_); refine L_give (by rfl) (g_igtr 3 _ _ .i64 _ _ false rfl rfl (decide_eq_false k3) ?_); (try simp only [Act.put, List.setIfInBounds_toArray, List.set_cons_zero, List.set_cons_succ]))
        | (refine stop_region 9 ?_; intro X2 hX2))
      refine hX2.out ?_
      clear hX2 X2
      refine wp_region_lateF 25 (by kernel_rfl) (by kernel_rfl) (by rfl) [.string X, .slice (some ⟨b, bo, none⟩) l.length cap, .int .i64 (j : Int), .pointer (some ⟨b, bo + j * 2, none⟩), .pointer (some ⟨b, bo + j * 2, none⟩), .int .i64 f.1, .int .u64 f.1, .string A, .slice (some ⟨b, bo, none⟩) l.length cap, .int .i64 (j : Int), .pointer (some ⟨b, bo + j * 2, none⟩), .pointer (some ⟨b, bo + j * 2 + 1, none⟩), .string f.2, .int .i64 (f.2.size : Int), .int .i64 m, .int .u64 m, .string B, .string C, .slice (some ⟨b, bo, none⟩) l.length cap, .int .i64 (j : Int), .pointer (some ⟨b, bo + j * 2, none⟩), .pointer (some ⟨b, bo + j * 2 + 1, none⟩), .string f.2, .string D, .string Y, .string Y] (by rfl) (fun w' => Below wr.heap.size wr w') (Below.refl _ _).drew ?_ ?_
      · simp only [List.take_succ_cons, List.take_zero, fullL, Act.put, List.setIfInBounds_toArray, List.set_cons_succ, List.set_cons_zero]
        intro i o ho wx hw
        rcases i with _ | _ | _ | _ | _ | _ | _ | _ | _ | _ | _ | _ | _ | _ | _ | _ | _ | _ | _ | _ | _ | _ | _ | _ | _ | _ | i
        · obtain rfl := Option.some.inj ho; exact g_move _ _ rfl ⟨rfl, hw⟩
        · obtain rfl := Option.some.inj ho; exact g_move _ _ rfl ⟨rfl, hw⟩
        · obtain rfl := Option.some.inj ho; exact g_move _ _ rfl ⟨rfl, hw⟩
        · obtain rfl := Option.some.inj ho; exact g_ixF _ _ b bo _ _ j rfl rfl hlt ⟨rfl, hw⟩
        · obtain rfl := Option.some.inj ho; exact g_fF0 _ b (bo + j * 2) rfl ⟨rfl, hw⟩
        · obtain rfl := Option.some.inj ho; exact g_cell3 _ b (bo + j * 2) _ rfl (by rw [hw.cell (World.block_lt_of_cell? wr _ c0)]; exact c0) ⟨rfl, hw⟩
        · obtain rfl := Option.some.inj ho; exact g_cv_3_23 _ _ _ rfl hk2.out ⟨rfl, hw⟩
        · obtain rfl := Option.some.inj ho; exact g_call 30 _ _ [.int .u64 f.1, .int .i64 ((2 : Nat) : Int)] (kf30 _ _) rfl ((rput_x f.1 2 A wx (by decide) (by omega) (by omega) hA).mono fun _ _ ⟨h1, h2⟩ => ⟨_, h1, rfl, hw.trans (h2.mono hw.size)⟩)
        · obtain rfl := Option.some.inj ho; exact g_move _ _ rfl ⟨rfl, hw⟩
        · obtain rfl := Option.some.inj ho; exact g_move _ _ rfl ⟨rfl, hw⟩
        · obtain rfl := Option.some.inj ho; exact g_ixF _ _ b bo _ _ j rfl rfl hlt ⟨rfl, hw⟩
        · obtain rfl := Option.some.inj ho; exact g_fF1 _ b (bo + j * 2) rfl ⟨rfl, hw⟩
        · obtain rfl := Option.some.inj ho; exact g_cell9 _ b (bo + j * 2 + 1) _ rfl (by rw [hw.cell (World.block_lt_of_cell? wr _ c1)]; exact c1) ⟨rfl, hw⟩
        · obtain rfl := Option.some.inj ho; exact g_slen _ f.2 _ rfl rfl ⟨rfl, hw⟩
        · obtain rfl := Option.some.inj ho; exact g_iadd 3 _ _ .i64 _ _ m rfl rfl hm.out ⟨rfl, hw⟩
        · obtain rfl := Option.some.inj ho; exact g_cv_3_23 _ _ _ rfl hm2.out ⟨rfl, hw⟩
        · obtain rfl := Option.some.inj ho; exact g_call 30 _ _ [.int .u64 m, .int .i64 ((2 : Nat) : Int)] (kf30 _ _) rfl ((rput_x m 2 B wx (by decide) (by omega) (by omega) hBb).mono fun _ _ ⟨h1, h2⟩ => ⟨_, h1, rfl, hw.trans (h2.mono hw.size)⟩)
        · obtain rfl := Option.some.inj ho; exact g_sadd 9 _ _ A B C rfl rfl hC.out (by omega) ⟨rfl, hw⟩
        · obtain rfl := Option.some.inj ho; exact g_move _ _ rfl ⟨rfl, hw⟩
        · obtain rfl := Option.some.inj ho; exact g_move _ _ rfl ⟨rfl, hw⟩
        · obtain rfl := Option.some.inj ho; exact g_ixF _ _ b bo _ _ j rfl rfl hlt ⟨rfl, hw⟩
        · obtain rfl := Option.some.inj ho; exact g_fF1 _ b (bo + j * 2) rfl ⟨rfl, hw⟩
        · obtain rfl := Option.some.inj ho; exact g_cell9 _ b (bo + j * 2 + 1) _ rfl (by rw [hw.cell (World.block_lt_of_cell? wr _ c1)]; exact c1) ⟨rfl, hw⟩
        · obtain rfl := Option.some.inj ho; exact g_sadd 9 _ _ C f.2 D rfl rfl hD.out (by omega) ⟨rfl, hw⟩
        · obtain rfl := Option.some.inj ho; exact g_sadd 9 _ _ X D Y rfl rfl hY.out (by omega) ⟨rfl, hw⟩
        · obtain rfl := Option.some.inj ho; exact g_assign _ _ rfl ⟨rfl, hw⟩
        · simp at ho
      · simp only [fullL, Act.put, List.setIfInBounds_toArray, List.set_cons_succ, List.set_cons_zero]
        intro w1 t_
        replace hB := hB.trans (t_.mono hB.size)
        clear t_ c0 c1
        go_wp2_with fail
        go_loop [6] (fun s6 => ∃ (Z : ByteArray) (z : Nat), s6 = .string Z ∧ Z.size = Y.size + z ∧ z ≤ 3 ∧ Hid (z ≤ (4 - Y.size % 4) % 4) ∧ Hid (Z.data.toList = Y.data.toList ++ List.replicate z 0)) (fun s6 => (4 - strLen s6 % 4) % 4)
        case atStart => exact ⟨Y, 0, rfl, rfl, by omega, Nat.zero_le _, by show _ = _; simp⟩
        case round =>
          obtain ⟨Z, z, rfl, zZ, hz3, hz, hZ⟩ := hrel
          by_cases h4 : Z.size % 4 = 0
          · have h4I : ((Z.size : Nat) : Int).tmod 4 = 0 := by rw [Int.tmod_eq_emod_of_nonneg (by omega)]; omega
            have hend : Hid (Z.data.toList = T.data.toList ++ (l.take (j + 1)).flatMap fb) := by
              show _ = _
              rw [pad_end X.data.toList D.data.toList Y.data.toList Z.data.toList z (by rw [← Lib.size_eq]; exact hX4) (by rw [← hY.out, list_app]) hZ.out (by rw [← Lib.size_eq]; exact hz.out) (by rw [← Lib.size_eq]; exact h4), ← hfb.out, hX.out, flat_take l j hlt, hfE.out, List.append_assoc]
            have hZs : Z.size ≤ 48 + 1007 * (j + 1) := by omega
            go_wp2_with (first
              | ((with_reducible refine at_binD 73 ?_); refine L_give (by rfl) (g_irem 3 _ _ .i64 _ _ 0 rfl rfl (by decide) h4I ?_); (try simp only [Act.put, List.setIfInBounds_toArray, List.set_cons_zero, List.set_cons_succ]))
              | ((with_reducible refine at_binD 74 ?_); refine L_give (by rfl) (g_ine 3 _ _ .i64 _ _ false rfl rfl (by decide) ?_); (try simp only [Act.put, List.setIfInBounds_toArray, List.set_cons_zero, List.set_cons_succ])))
            go_roundw
            case rel => exact ⟨j + 1, Z, hlt, by go_num, rfl, hZs, h4, hend, all_take l j hlt ha.out (by rw [hfE.out]; exact hyes.out), hB⟩
            case measure => simp [intOf]; omega
          · obtain ⟨q, hq⟩ : ∃ q : Int, ((Z.size : Nat) : Int).tmod 4 = q := ⟨_, rfl⟩
            have hq0 : q ≠ 0 := by rw [← hq, Int.tmod_eq_emod_of_nonneg (by omega)]; omega
            obtain ⟨Z2, hZ2⟩ : ∃ Z2, Hid (Z ++ ⟨#[0]⟩ = Z2) := ⟨_, rfl⟩
            have zZ2 : Z2.size = Z.size + 1 := by rw [← hZ2.out, size_app]; rfl
            have hz2 : Hid (z + 1 ≤ (4 - Y.size % 4) % 4) := by show _ ≤ _; have := hz.out; omega
            have hZl : Hid (Z2.data.toList = Y.data.toList ++ List.replicate (z + 1) 0) := by show _ = _; rw [← hZ2.out, list_app, hZ.out, List.append_assoc, List.replicate_succ']
            go_wp2_with (first
              | ((with_reducible refine at_binD 73 ?_); refine L_give (by rfl) (g_irem 3 _ _ .i64 _ _ q rfl rfl (by decide) hq ?_); (try simp only [Act.put, List.setIfInBounds_toArray, List.set_cons_zero, List.set_cons_succ]))
              | ((with_reducible refine at_binD 74 ?_); refine L_give (by rfl) (g_ine 3 _ _ .i64 _ _ true rfl rfl (decide_eq_true hq0) ?_); (try simp only [Act.put, List.setIfInBounds_toArray, List.set_cons_zero, List.set_cons_succ]))
              | ((with_reducible refine at_binD 76 ?_); refine L_give (by rfl) (g_sadd 9 _ _ Z ⟨#[0]⟩ Z2 rfl rfl hZ2.out (by have : (⟨#[0]⟩ : ByteArray).size = 1 := rfl; omega) ?_); (try simp only [Act.put, List.setIfInBounds_toArray, List.set_cons_zero, List.set_cons_succ])))
            go_round
            case rel => exact ⟨Z2, z + 1, rfl, by omega, by have := hz2.out; omega, hz2.out, hZl.out⟩
            case measure => simp only [strLen]; omega
    · have hltI : ¬ (j : Int) < ((l.length : Nat) : Int) := by omega
      have hall : Hid (l.all fmay = true) := by have k := ha.out; rw [List.take_of_length_le (by omega)] at k; exact k
      have hXe : Hid (X.data.toList = T.data.toList ++ l.flatMap fb) := by have k := hX.out; rw [List.take_of_length_le (by omega)] at k; exact k
      clear ha hX
      have hXZ : Hid (X = Z0) := by show _ = _; apply ByteArray.ext; apply Array.toList_inj.1; rw [hXe.out, hZ0.out]
      go_wp2_with (first
        | ((with_reducible refine at_binD 20 ?_); refine L_give (by rfl) (g_ilss 3 _ _ .i64 _ _ false rfl rfl (decide_eq_false hltI) ?_); (try simp only [Act.put, List.setIfInBounds_toArray, List.set_cons_zero, List.set_cons_succ]))
        | ((with_reducible refine at_binD 79 ?_); refine L_give (by rfl) (g_igtr 3 _ _ .i64 _ _ false rfl rfl (decide_eq_false h16) ?_); (try simp only [Act.put, List.setIfInBounds_toArray, List.set_cons_zero, List.set_cons_succ])))
      go_ret2
      exact ⟨by rw [← hXZ.out]; rfl, hB⟩
theorem rhwrite_any (h : Hd) (l : List (Int × ByteArray)) (ao : Option Addr) (cap : Nat) (w : World) (hi : InH h) (hn : l.length ≤ 140737488355328) (hf : Fis w (.slice ao l.length cap) l) (S : ByteArray) (E : Int) (hw : Hid (wr h l = (S, E))) : Calls Try.prog 22 #[.agg (hc h).toArray, .slice ao l.length cap] w fun e w' => e = .returned (.tuple #[.string S, .int .i64 E]) ∧ Below w.heap.size w w' := by
  have hw := hw.out
  unfold wr at hw
  split at hw
  · rename_i hm
    have hp : Hid (pt h = (⟨(hb h).toArray⟩, 0)) := by show _ = _; unfold pt; rw [if_pos hm]
    have hT : (⟨(hb h).toArray⟩ : ByteArray).size = 48 := by rw [size_toArray, hb_length]
    split at hw
    · rename_i ha
      split at hw
      · rename_i h16
        obtain ⟨rfl, rfl⟩ := Prod.mk.inj hw
        exact rwrite_2 h l ao cap w hi hn hf _ hT hp ha (by omega)
      · rename_i h16
        obtain ⟨rfl, rfl⟩ := Prod.mk.inj hw
        exact rwrite_3 h l ao cap w hi hn hf _ _ hT hp ha (by omega) rfl
    · rename_i ha
      obtain ⟨rfl, rfl⟩ := Prod.mk.inj hw
      exact rwrite_1 h l ao cap w hi hn hf _ hT hp (show l.all fmay = false by simpa using ha)
  · rename_i hm
    obtain ⟨rfl, rfl⟩ := Prod.mk.inj hw
    exact rwrite_0 h l ao cap w hi hn hf (by show _ = _; unfold pt; rw [if_neg hm])
end Go.Proofs.Yteieacamokoejaa
