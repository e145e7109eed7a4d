/- ShaTells' walk: the law returns true; nothing that was there has turned. -/
import Derived.Test.YthbnlidfgjgncaaDoorAwake
import Derived.Test.YthbnlidfgjgncaaDoorRef5
import Derived.OpenShut
namespace Go.Proofs.YthbnlidfgjgncaaDoor.shaTells
open Go.RowKit
set_option linter.unusedVariables false
theorem cf12 (vs : Array Value) (w : World) : (callFunc 12 vs).run Tryd.prog w = .ok (.enter 12 vs) w := by go_simp
theorem cf14 (vs : Array Value) (w : World) : (callFunc 14 vs).run Tryd.prog w = .ok (.enter 14 vs) w := by go_simp
set_option maxRecDepth 100000 in
set_option maxHeartbeats 4000000 in
theorem walk (a0 : ByteArray) (w0 : a0.size ≤ maxLen) (u : World) (hT : Tabs u) :
    Calls Tryd.prog 3 #[.string a0] u fun e w' => e = .returned (.bool true) ∧ Below u.heap.size u w' := by
  have hts := hT.size
  have v0 : a0.size ≤ 9223372036854775807 := w0
  clear w0
  by_cases hbig : 1024 < a0.size
  · go_enter Tryd.func3, Tryd.ntmps3
    go_wp2_with fail
    refine (awake_any _ hT).mono ?_; rintro e w1 ⟨rfl, hb1⟩
    go_wp2_with fail
    go_ret
    exact ⟨rfl, hb1⟩
  have hsm : a0.size ≤ 1024 := by omega
  obtain ⟨D, hD⟩ : ∃ D, sum a0.data.toList = D := ⟨_, rfl⟩
  have HD : Hid (D.length = 32) := by show _ = _; rw [← hD]; exact sum_length _
  have HSUM : Hid (sum a0.data.toList = D) := hD
  have HDIG : Hid (dig a0.data.toList = D) := by show _ = _; rw [← sum_dig]; exact hD
  clear hD
  go_enter Tryd.func3, Tryd.ntmps3
  go_wp2_with fail
  refine (awake_any _ hT).mono ?_; rintro e w1 ⟨rfl, hb1⟩
  have n1 := hb1.size
  go_wp2_with fail
  refine (sum_any a0 w1 (hT.below hb1 hts) (by omega)).mono ?_; rw [HSUM.out]; rintro e w2 ⟨rfl, hb2⟩
  have hB2 : Below u.heap.size u w2 := hb1.trans (hb2.mono n1)
  have n2 := hB2.size
  have hl : Hid ((bc D).length = (bc (List.replicate 32 0)).length) := by show _ = _; rw [bc_length, HD.out]; rfl
  go_wp2_with (first
    | ((with_reducible refine at_alloc 24 ?_); refine L_alloc 24 _ zero24 ?_; intro w3 h3 c3)
    | ((with_reducible refine at_store 24 ?_); refine L_store_all 24 _ _ w2.heap.size (bc D) _ 24 rfl rfl c3 (zk24 D HD.out) hl.out (bc_one _) ?_; intro w4 h4 c4))
  have hB4 : Below u.heap.size u w4 := h4.below (h3.below hB2 n2) n2
  clear h3 h4 c3 hb2 hb1
  refine wp_region_fixed (by kernel_rfl) (by kernel_rfl) [.agg (bc D).toArray, .string a0, .agg (bc D).toArray, .bool true, .bool true, .agg (bc D).toArray, .string ⟨(hexL D).toArray⟩, .agg (bc D).toArray, .string ⟨(hexL D).toArray⟩, .bool true, .bool true, .bool true] (by rfl) (fun w' => Below w4.heap.size w4 w') (Below.refl _ _).drew ?_ ?_
  · simp only [fullL, Act.put, List.setIfInBounds_toArray, List.set_cons_succ, List.set_cons_zero]
    refine ⟨?_, ?_, ?_, ?_, ?_, ?_, ?_, ?_, ?_, ?_, ?_, ?_, trivial⟩
    · exact fun w hw => gw rfl (g_load_all 24 _ (w2.heap.size) _ 24 _ rfl (c4.below hw c4.lt) Tryd.underlying24 rfl (zk24 D HD.out) ⟨rfl, hw⟩)
    · exact fun w hw => gw rfl (g_move _ _ rfl ⟨rfl, hw⟩)
    · exact fun w hw => gw rfl (g_call 12 _ _ [.string a0] (cf12 _ _) rfl (mono_val hw (by have h := rsum_any a0 (by omega) w; rw [HDIG.out] at h; exact h)))
    · exact fun w hw => gw rfl (g_eql 24 5 _ _ 32 D D rfl rfl guard24 Tryd.underlying24 Tryd.underlying5 Tryd.sizeOf5 Tryd.isAgg5 HD.out HD.out ⟨by simp, hw⟩)
    · exact fun w hw => gw rfl (g_move _ _ rfl ⟨rfl, hw⟩)
    · exact fun w hw => gw rfl (g_load_all 24 _ (w2.heap.size) _ 24 _ rfl (c4.below hw c4.lt) Tryd.underlying24 rfl (zk24 D HD.out) ⟨rfl, hw⟩)
    · exact fun w hw => gw rfl (g_call 13 _ _ [.agg (bc D).toArray] (cf13 _ _) rfl (mono_val hw (hex_any D HD.out w)))
    · exact fun w hw => gw rfl (g_load_all 24 _ (w2.heap.size) _ 24 _ rfl (c4.below hw c4.lt) Tryd.underlying24 rfl (zk24 D HD.out) ⟨rfl, hw⟩)
    · exact fun w hw => gw rfl (g_call 14 _ _ [.agg (bc D).toArray] (cf14 _ _) rfl (mono_val hw (rhex_any D HD.out w)))
    · exact fun w hw => gw rfl (g_seql 9 _ _ ⟨(hexL D).toArray⟩ rfl rfl ⟨rfl, hw⟩)
    · exact fun w hw => gw rfl (g_pick _ _ _ _ rfl rfl ⟨rfl, hw⟩)
    · exact fun w hw => gw rfl (g_assign _ _ rfl ⟨rfl, hw⟩)
  · simp only [fullL, Act.put, List.setIfInBounds_toArray, List.set_cons_succ, List.set_cons_zero]
    intro w8 hw
    go_wp2_with fail
    go_ret
    exact ⟨rfl, hB4.trans (hw.mono hB4.size)⟩
end Go.Proofs.YthbnlidfgjgncaaDoor.shaTells
