/- What the library's CutPrefix answers; where a head's words and stamps are (head.words, head.stamps). -/
import Derived.Test.YteieacamokoejaaHd2
import Derived.Test.YteieacamokoejaaRegN
namespace Go.Proofs.Yteieacamokoejaa
open Go Go.RowKit
set_option linter.unusedVariables false

theorem prefix_ext (s p : ByteArray) : p.data.toList <+: s.data.toList ↔ p.size ≤ s.size ∧ s.extract 0 p.size = p := by
  have hp := Lib.size_eq p
  have hs := Lib.size_eq s
  constructor
  · intro h
    have hl := h.length_le
    refine ⟨by omega, ?_⟩
    apply ByteArray.ext
    apply Array.toList_inj.1
    rw [ext_list, List.drop_zero, Nat.sub_zero, hp]
    exact (List.prefix_iff_eq_take.1 h).symm
  · rintro ⟨h1, h2⟩
    have h3 := ext_list s 0 p.size
    rw [h2, List.drop_zero, Nat.sub_zero] at h3
    rw [h3]
    exact List.take_prefix _ _
set_option maxRecDepth 10000 in
set_option maxHeartbeats 4000000 in
theorem hasp_t (s p : ByteArray) (w : World) (h1 : p.size ≤ s.size) (h2 : s.extract 0 p.size = p) : Calls Try.prog 51 #[.string s, .string p] w fun e w' => e = .returned (.bool true) ∧ w' = w := by
  have h1' : (p.size : Int) ≤ (s.size : Int) := by omega
  go_enter Try.func51, Try.ntmps51
  go_wp2_with (first
    | ((with_reducible refine at_binD 9 ?_); refine L_give (by rfl) (g_igeq 3 _ _ .i64 _ _ true rfl rfl (decide_eq_true h1') ?_))
    | ((with_reducible refine at_sliceD 14 ?_); refine L_give (by rfl) (g_sl_h _ _ _ p p.size rfl rfl h1 h2 ?_))
    | ((with_reducible refine at_binD 16 ?_); refine L_give (by rfl) (g_seql 9 _ _ p p true rfl rfl (decide_eq_true rfl) ?_)))
  go_ret
  exact ⟨rfl, rfl⟩
set_option maxRecDepth 10000 in
set_option maxHeartbeats 4000000 in
theorem hasp_f (s p : ByteArray) (w : World) (h1 : ¬ p.size ≤ s.size) : Calls Try.prog 51 #[.string s, .string p] w fun e w' => e = .returned (.bool false) ∧ w' = w := by
  have h1' : ¬ (p.size : Int) ≤ (s.size : Int) := by omega
  go_enter Try.func51, Try.ntmps51
  go_wp2_with (first
    | ((with_reducible refine at_binD 9 ?_); refine L_give (by rfl) (g_igeq 3 _ _ .i64 _ _ false rfl rfl (decide_eq_false h1') ?_)))
  go_ret
  exact ⟨rfl, rfl⟩
set_option maxRecDepth 10000 in
set_option maxHeartbeats 4000000 in
theorem hasp_n (s p x : ByteArray) (w : World) (h1 : p.size ≤ s.size) (h2 : s.extract 0 p.size = x) (h3 : ¬ x = p) : Calls Try.prog 51 #[.string s, .string p] w fun e w' => e = .returned (.bool false) ∧ w' = w := by
  have h1' : (p.size : Int) ≤ (s.size : Int) := by omega
  go_enter Try.func51, Try.ntmps51
  go_wp2_with (first
    | ((with_reducible refine at_binD 9 ?_); refine L_give (by rfl) (g_igeq 3 _ _ .i64 _ _ true rfl rfl (decide_eq_true h1') ?_))
    | ((with_reducible refine at_sliceD 14 ?_); refine L_give (by rfl) (g_sl_h _ _ _ x p.size rfl rfl h1 h2 ?_))
    | ((with_reducible refine at_binD 16 ?_); refine L_give (by rfl) (g_seql 9 _ _ x p false rfl rfl (decide_eq_false h3) ?_)))
  go_ret
  exact ⟨rfl, rfl⟩
theorem hasp_any (s p : ByteArray) (w : World) (h : ¬ p.data.toList <+: s.data.toList) : Calls Try.prog 51 #[.string s, .string p] w fun e w' => e = .returned (.bool false) ∧ w' = w := by
  by_cases h1 : p.size ≤ s.size
  · exact hasp_n s p _ w h1 rfl (fun h2 => h ((prefix_ext s p).2 ⟨h1, h2⟩))
  · exact hasp_f s p w h1
set_option maxRecDepth 10000 in
set_option maxHeartbeats 4000000 in
theorem cutl_t (s p R : ByteArray) (w : World) (h : p.data.toList <+: s.data.toList) (hR : s.extract p.size s.size = R) : Calls Try.prog 46 #[.string s, .string p] w fun e w' => e = .returned (.tuple #[.string R, .bool true]) ∧ w' = w := by
  obtain ⟨h1, h2⟩ := (prefix_ext s p).1 h
  have HH : Hid (p.data.toList <+: s.data.toList) := h
  clear h
  go_enter Try.func46, Try.ntmps46
  go_wp2_with fail
  refine (hasp_t s p w h1 h2).mono ?_
  rintro e w1 ⟨rfl, hW⟩
  rw [hW]
  go_wp2_with ((with_reducible refine at_sliceD 14 ?_); refine L_give (by rfl) (g_sl_l _ _ _ R p.size rfl rfl h1 hR ?_))
  go_ret2
  exact ⟨rfl, rfl⟩
set_option maxRecDepth 10000 in
set_option maxHeartbeats 4000000 in
theorem cutl_f (s p : ByteArray) (w : World) (h : ¬ p.data.toList <+: s.data.toList) : Calls Try.prog 46 #[.string s, .string p] w fun e w' => e = .returned (.tuple #[.string s, .bool false]) ∧ w' = w := by
  have HH : Hid (¬ p.data.toList <+: s.data.toList) := h
  clear h
  go_enter Try.func46, Try.ntmps46
  go_wp2_with fail
  refine (hasp_any s p w HH.out).mono ?_
  rintro e w1 ⟨rfl, hW⟩
  rw [hW]
  go_wp2
  go_ret2
  exact ⟨rfl, rfl⟩
set_option maxRecDepth 10000 in
set_option maxHeartbeats 4000000 in
theorem cutp_t (s p R : ByteArray) (w : World) (h : p.data.toList <+: s.data.toList) (hR : s.extract p.size s.size = R) : Calls Try.prog 44 #[.string s, .string p] w fun e w' => e = .returned (.tuple #[.string R, .bool true]) ∧ w' = w := by
  have HK : Hid (∀ w, Calls Try.prog 46 #[.string s, .string p] w fun e w' => e = .returned (.tuple #[.string R, .bool true]) ∧ w' = w) := fun w => cutl_t s p R w h hR
  clear h hR
  go_enter Try.func44, Try.ntmps44
  go_wp2_with fail
  refine (HK.out w).mono ?_
  rintro e w1 ⟨rfl, hW⟩
  rw [hW]
  go_wp2
  go_ret2
  exact ⟨rfl, rfl⟩
set_option maxRecDepth 10000 in
set_option maxHeartbeats 4000000 in
theorem cutp_f (s p : ByteArray) (w : World) (h : ¬ p.data.toList <+: s.data.toList) : Calls Try.prog 44 #[.string s, .string p] w fun e w' => e = .returned (.tuple #[.string s, .bool false]) ∧ w' = w := by
  have HK : Hid (∀ w, Calls Try.prog 46 #[.string s, .string p] w fun e w' => e = .returned (.tuple #[.string s, .bool false]) ∧ w' = w) := fun w => cutl_f s p w h
  clear h
  go_enter Try.func44, Try.ntmps44
  go_wp2_with fail
  refine (HK.out w).mono ?_
  rintro e w1 ⟨rfl, hW⟩
  rw [hW]
  go_wp2
  go_ret2
  exact ⟨rfl, rfl⟩
theorem sz64 : (Try.prog.info? 64).map (·.size) = some 3 := by kernel_rfl
theorem zero64 : ∀ w, (zeroValue 64).run Try.prog w = .ok (.agg ([.pointer none, .pointer none, .pointer none] : List Value).toArray) w := by intro w; kernel_rfl
set_option maxRecDepth 10000 in
set_option maxHeartbeats 4000000 in
theorem words_any (b : Nat) (w : World) : Calls Try.prog 27 #[.pointer (some ⟨b, 0, none⟩)] w fun e w' => e = .returned (.agg ([.pointer (some ⟨b, 6, none⟩), .pointer (some ⟨b, 7, none⟩), .pointer (some ⟨b, 8, none⟩)] : List Value).toArray) ∧ Below w.heap.size w w' := by
  go_enter Try.func27, Try.ntmps27
  go_wp2_with (first
    | (refine stop_region 1 ?_; intro X hX)
    | ((with_reducible refine at_allocD 2 64 ?_); refine L_alloc 64 [.pointer none, .pointer none, .pointer none] zero64 ?_; intro w1 t_ b_r; have hB : Below w.heap.size w w1 := t_.below (Below.refl _ _) (Nat.le_refl _); clear t_))
  refine hX.out ?_
  clear hX X
  refine wp_region_put (by kernel_rfl) (by kernel_rfl) [.pointer (some ⟨b, 0, none⟩), .pointer (some ⟨b, 0, none⟩), .pointer (some ⟨b, 6, none⟩), .pointer (some ⟨b, 0, none⟩), .pointer (some ⟨b, 0, none⟩), .pointer (some ⟨b, 7, none⟩), .pointer (some ⟨b, 0, none⟩), .pointer (some ⟨b, 0, none⟩), .pointer (some ⟨b, 8, none⟩), .agg ([.pointer (some ⟨b, 6, none⟩), .pointer (some ⟨b, 7, none⟩), .pointer (some ⟨b, 8, none⟩)] : List Value).toArray, undef] (by rfl) 10 (fun wx => Blk wx w.heap.size [.pointer none, .pointer none, .pointer none] 64 ∧ Below w.heap.size w wx) (fun wx => Blk wx w.heap.size [.pointer (some ⟨b, 6, none⟩), .pointer (some ⟨b, 7, none⟩), .pointer (some ⟨b, 8, none⟩)] 64 ∧ Below w.heap.size w wx) ⟨b_r.drew, hB.drew⟩ ?_ ?_ (by decide) ?_
  · simp only [fullL, Act.put, List.setIfInBounds_toArray, List.set_cons_succ, List.set_cons_zero]
    intro i o ho hne wx
    rcases i with _ | _ | _ | _ | _ | _ | _ | _ | _ | _ | _ | i
    · obtain rfl := Option.some.inj ho; exact gw rfl (g_move _ _ rfl ⟨rfl, rfl⟩)
    · obtain rfl := Option.some.inj ho; exact gw rfl (g_val _ _ (by simp only [execOp]; go_simp) ⟨rfl, rfl⟩)
    · obtain rfl := Option.some.inj ho; exact gw rfl (g_fH _ _ 6 6 rfl (by go_simp) ⟨rfl, rfl⟩)
    · obtain rfl := Option.some.inj ho; exact gw rfl (g_move _ _ rfl ⟨rfl, rfl⟩)
    · obtain rfl := Option.some.inj ho; exact gw rfl (g_val _ _ (by simp only [execOp]; go_simp) ⟨rfl, rfl⟩)
    · obtain rfl := Option.some.inj ho; exact gw rfl (g_fH _ _ 7 7 rfl (by go_simp) ⟨rfl, rfl⟩)
    · obtain rfl := Option.some.inj ho; exact gw rfl (g_move _ _ rfl ⟨rfl, rfl⟩)
    · obtain rfl := Option.some.inj ho; exact gw rfl (g_val _ _ (by simp only [execOp]; go_simp) ⟨rfl, rfl⟩)
    · obtain rfl := Option.some.inj ho; exact gw rfl (g_fH _ _ 8 8 rfl (by go_simp) ⟨rfl, rfl⟩)
    · obtain rfl := Option.some.inj ho; exact gw rfl (g_val (.agg ([.pointer (some ⟨b, 6, none⟩), .pointer (some ⟨b, 7, none⟩), .pointer (some ⟨b, 8, none⟩)] : List Value).toArray) _ (by simp only [execOp, List.map_toArray, List.map_cons, List.map_nil]; go_simp) ⟨rfl, rfl⟩)
    · exact absurd rfl hne
    · simp at ho
  · intro o ho wx ⟨hb, hw⟩; obtain rfl := Option.some.inj ho; simp only [fullL, Act.put, List.setIfInBounds_toArray, List.set_cons_succ, List.set_cons_zero]
    exact gw rfl (g_store_all 64 _ _ w.heap.size [.pointer (some ⟨b, 6, none⟩), .pointer (some ⟨b, 7, none⟩), .pointer (some ⟨b, 8, none⟩)] _ 64 rfl rfl hb sz64 rfl (by intro v hv; simp only [List.mem_cons, List.not_mem_nil, or_false] at hv; rcases hv with rfl | rfl | rfl <;> rfl) (fun w' h1 h2 => ⟨rfl, h2, h1.below hw (Nat.le_refl _)⟩))
  · simp only [fullL, Act.put, List.setIfInBounds_toArray, List.set_cons_succ, List.set_cons_zero]
    intro w2 ⟨hb, hw⟩
    go_wp2
    exact bodyPost_ret (results_blk rfl _ [.pointer (some ⟨b, 6, none⟩), .pointer (some ⟨b, 7, none⟩), .pointer (some ⟨b, 8, none⟩)] _ rfl hb Try.underlying64 rfl sz64) rfl ⟨rfl, hw⟩
theorem sz68 : (Try.prog.info? 68).map (·.size) = some 4 := by kernel_rfl
theorem zero68 : ∀ w, (zeroValue 68).run Try.prog w = .ok (.agg ([.pointer none, .pointer none, .pointer none, .pointer none] : List Value).toArray) w := by intro w; kernel_rfl
set_option maxRecDepth 10000 in
set_option maxHeartbeats 4000000 in
theorem stamps_any (b : Nat) (w : World) : Calls Try.prog 28 #[.pointer (some ⟨b, 0, none⟩)] w fun e w' => e = .returned (.agg ([.pointer (some ⟨b, 9, none⟩), .pointer (some ⟨b, 10, none⟩), .pointer (some ⟨b, 11, none⟩), .pointer (some ⟨b, 12, none⟩)] : List Value).toArray) ∧ Below w.heap.size w w' := by
  go_enter Try.func28, Try.ntmps28
  go_wp2_with (first
    | (refine stop_region 1 ?_; intro X hX)
    | ((with_reducible refine at_allocD 2 68 ?_); refine L_alloc 68 [.pointer none, .pointer none, .pointer none, .pointer none] zero68 ?_; intro w1 t_ b_r; have hB : Below w.heap.size w w1 := t_.below (Below.refl _ _) (Nat.le_refl _); clear t_))
  refine hX.out ?_
  clear hX X
  refine wp_region_put (by kernel_rfl) (by kernel_rfl) [.pointer (some ⟨b, 0, none⟩), .pointer (some ⟨b, 0, none⟩), .pointer (some ⟨b, 9, none⟩), .pointer (some ⟨b, 0, none⟩), .pointer (some ⟨b, 0, none⟩), .pointer (some ⟨b, 10, none⟩), .pointer (some ⟨b, 0, none⟩), .pointer (some ⟨b, 0, none⟩), .pointer (some ⟨b, 11, none⟩), .pointer (some ⟨b, 0, none⟩), .pointer (some ⟨b, 0, none⟩), .pointer (some ⟨b, 12, none⟩), .agg ([.pointer (some ⟨b, 9, none⟩), .pointer (some ⟨b, 10, none⟩), .pointer (some ⟨b, 11, none⟩), .pointer (some ⟨b, 12, none⟩)] : List Value).toArray, undef] (by rfl) 13 (fun wx => Blk wx w.heap.size [.pointer none, .pointer none, .pointer none, .pointer none] 68 ∧ Below w.heap.size w wx) (fun wx => Blk wx w.heap.size [.pointer (some ⟨b, 9, none⟩), .pointer (some ⟨b, 10, none⟩), .pointer (some ⟨b, 11, none⟩), .pointer (some ⟨b, 12, none⟩)] 68 ∧ Below w.heap.size w wx) ⟨b_r.drew, hB.drew⟩ ?_ ?_ (by decide) ?_
  · simp only [fullL, Act.put, List.setIfInBounds_toArray, List.set_cons_succ, List.set_cons_zero]
    intro i o ho hne wx
    rcases i with _ | _ | _ | _ | _ | _ | _ | _ | _ | _ | _ | _ | _ | _ | i
    · obtain rfl := Option.some.inj ho; exact gw rfl (g_move _ _ rfl ⟨rfl, rfl⟩)
    · obtain rfl := Option.some.inj ho; exact gw rfl (g_val _ _ (by simp only [execOp]; go_simp) ⟨rfl, rfl⟩)
    · obtain rfl := Option.some.inj ho; exact gw rfl (g_fH _ _ 9 9 rfl (by go_simp) ⟨rfl, rfl⟩)
    · obtain rfl := Option.some.inj ho; exact gw rfl (g_move _ _ rfl ⟨rfl, rfl⟩)
    · obtain rfl := Option.some.inj ho; exact gw rfl (g_val _ _ (by simp only [execOp]; go_simp) ⟨rfl, rfl⟩)
    · obtain rfl := Option.some.inj ho; exact gw rfl (g_fH _ _ 10 10 rfl (by go_simp) ⟨rfl, rfl⟩)
    · obtain rfl := Option.some.inj ho; exact gw rfl (g_move _ _ rfl ⟨rfl, rfl⟩)
    · obtain rfl := Option.some.inj ho; exact gw rfl (g_val _ _ (by simp only [execOp]; go_simp) ⟨rfl, rfl⟩)
    · obtain rfl := Option.some.inj ho; exact gw rfl (g_fH _ _ 11 11 rfl (by go_simp) ⟨rfl, rfl⟩)
    · obtain rfl := Option.some.inj ho; exact gw rfl (g_move _ _ rfl ⟨rfl, rfl⟩)
    · obtain rfl := Option.some.inj ho; exact gw rfl (g_val _ _ (by simp only [execOp]; go_simp) ⟨rfl, rfl⟩)
    · obtain rfl := Option.some.inj ho; exact gw rfl (g_fH _ _ 12 12 rfl (by go_simp) ⟨rfl, rfl⟩)
    · obtain rfl := Option.some.inj ho; exact gw rfl (g_val (.agg ([.pointer (some ⟨b, 9, none⟩), .pointer (some ⟨b, 10, none⟩), .pointer (some ⟨b, 11, none⟩), .pointer (some ⟨b, 12, none⟩)] : List Value).toArray) _ (by simp only [execOp, List.map_toArray, List.map_cons, List.map_nil]; go_simp) ⟨rfl, rfl⟩)
    · exact absurd rfl hne
    · simp at ho
  · intro o ho wx ⟨hb, hw⟩; obtain rfl := Option.some.inj ho; simp only [fullL, Act.put, List.setIfInBounds_toArray, List.set_cons_succ, List.set_cons_zero]
    exact gw rfl (g_store_all 68 _ _ w.heap.size [.pointer (some ⟨b, 9, none⟩), .pointer (some ⟨b, 10, none⟩), .pointer (some ⟨b, 11, none⟩), .pointer (some ⟨b, 12, none⟩)] _ 68 rfl rfl hb sz68 rfl (by intro v hv; simp only [List.mem_cons, List.not_mem_nil, or_false] at hv; rcases hv with rfl | rfl | rfl | rfl <;> rfl) (fun w' h1 h2 => ⟨rfl, h2, h1.below hw (Nat.le_refl _)⟩))
  · simp only [fullL, Act.put, List.setIfInBounds_toArray, List.set_cons_succ, List.set_cons_zero]
    intro w2 ⟨hb, hw⟩
    go_wp2
    exact bodyPost_ret (results_blk rfl _ [.pointer (some ⟨b, 9, none⟩), .pointer (some ⟨b, 10, none⟩), .pointer (some ⟨b, 11, none⟩), .pointer (some ⟨b, 12, none⟩)] _ rfl hb Try.underlying68 rfl sz68) rfl ⟨rfl, hw⟩
end Go.Proofs.Yteieacamokoejaa
