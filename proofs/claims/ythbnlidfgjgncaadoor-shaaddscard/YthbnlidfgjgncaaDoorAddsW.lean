/- ShaAdds' walk: the law returns true; nothing that was there has turned. -/
import Derived.Test.YthbnlidfgjgncaaDoorAwake
import Derived.Test.YthbnlidfgjgncaaDoorBytesArg
import Derived.OpenShut
namespace Go.Proofs.YthbnlidfgjgncaaDoor.shaAdds
open Go.RowKit
set_option linter.unusedVariables false
theorem wrap_neg (n : Nat) (h : n < 100) : IntKind.i64.wrap (-(n : Int)) = -(n : Int) := by
  simp [IntKind.wrap, IntKind.bits, IntKind.signed]; omega
set_option maxRecDepth 100000 in
set_option maxHeartbeats 4000000 in
theorem walk (a0 : List UInt8) (w0 : a0.length = 32) (a1 : Int) (w1 : (Lit.int .u8 a1).wf = true) (a2 : Int) (w2 : (Lit.int .u8 a2).wf = true) (u : World) (hT : Tabs u) :
    Calls Tryd.prog 7 #[.agg (bc a0).toArray, .int .u8 a1, .int .u8 a2] u fun e w' => e = .returned (.bool true) ∧ Below u.heap.size u w' := by
  have hts := hT.size
  obtain ⟨B1, rfl⟩ := byte_of_wf a1 w1
  obtain ⟨B2, rfl⟩ := byte_of_wf a2 w2
  obtain ⟨X, hX⟩ : ∃ X : Nat, (B1.toNat : Int) % 20 = (X : Int) := ⟨B1.toNat % 20, by omega⟩
  obtain ⟨Y, hY⟩ : ∃ Y : Nat, (B2.toNat : Int) % 20 = (Y : Int) := ⟨B2.toNat % 20, by omega⟩
  have hX2 : X < 20 := by omega
  have hY2 : Y < 20 := by omega
  clear w1 w2
  go_enter Tryd.func7, Tryd.ntmps7
  go_wp2_with (first
    | ((with_reducible refine at_box 24 ?_); refine L_box 24 _ (bc a0) rfl ?_; intro w1 h1 hb1))
  have hB1 : Below u.heap.size u w1 := h1.below (Below.refl _ _) (Nat.le_refl _)
  have n1 := hb1.lt
  refine (awake_any _ (hT.below hB1 hts)).mono ?_; rintro e w2 ⟨rfl, hb2⟩
  have hB2 : Below u.heap.size u w2 := hB1.trans (hb2.mono (by omega))
  have c2 := hb1.below hb2 n1
  have hTx : ∀ w', Below w2.heap.size w2 w' → Tabs w' := fun w' h => (hT.below hB2 hts).below h (by have := hB2.size; omega)
  go_wp2_with fail
  refine wp_region_fixed (by kernel_rfl) (by kernel_rfl) [.agg (bc a0).toArray, .int .i64 X, .agg (bc (walkF X a0)).toArray, .int .i64 Y, .agg (bc (walkF (X + Y) a0)).toArray, .agg (bc a0).toArray, .int .i64 X, .int .i64 Y, .int .i64 ((X + Y : Nat) : Int), .agg (bc (walkF (X + Y) a0)).toArray, .bool true, .bool true, .agg (bc a0).toArray, .int .i64 X, .int .i64 (-(X : Int)), .agg (bc a0).toArray, .agg (bc a0).toArray, .bool true, .bool true, .bool true] (by rfl) (fun w' => Below w2.heap.size w2 w') (Below.refl _ _).drew ?_ ?_
  · simp only [fullL, Act.put, List.setIfInBounds_toArray, List.set_cons_succ, List.set_cons_zero]
    refine ⟨?_, ?_, ?_, ?_, ?_, ?_, ?_, ?_, ?_, ?_, ?_, ?_, ?_, ?_, ?_, ?_, ?_, ?_, ?_, ?_, trivial⟩
    · exact fun w hw => gw rfl (g_load_all 24 _ (u.heap.size) _ 24 _ rfl (c2.below hw c2.lt) Tryd.underlying24 rfl (zk24 a0 w0) ⟨rfl, hw⟩)
    · exact fun w hw => gw rfl (g_move _ _ rfl ⟨rfl, hw⟩)
    · exact fun w hw => gw rfl (g_call 15 _ _ [.agg (bc a0).toArray, .int .i64 X] (cf15 _ _) rfl (mono_val hw (walk_nat a0 X w0 w (hTx w hw) (by omega))))
    · exact fun w hw => gw rfl (g_move _ _ rfl ⟨rfl, hw⟩)
    · exact fun w hw => gw rfl (g_call 15 _ _ [.agg (bc (walkF X a0)).toArray, .int .i64 Y] (cf15 _ _) rfl (mono_val hw (by have h := walk_nat (walkF X a0) Y (walkF_length _ _ w0) w (hTx w hw) (by omega); rw [walkF_add] at h; exact h)))
    · exact fun w hw => gw rfl (g_load_all 24 _ (u.heap.size) _ 24 _ rfl (c2.below hw c2.lt) Tryd.underlying24 rfl (zk24 a0 w0) ⟨rfl, hw⟩)
    · exact fun w hw => gw rfl (g_move _ _ rfl ⟨rfl, hw⟩)
    · exact fun w hw => gw rfl (g_move _ _ rfl ⟨rfl, hw⟩)
    · exact fun w hw => gw rfl (g_iadd 3 _ _ X Y _ rfl rfl (by rw [wrap_i64 _ (by omega) (by omega)]; omega) ⟨rfl, hw⟩)
    · exact fun w hw => gw rfl (g_call 15 _ _ [.agg (bc a0).toArray, .int .i64 ((X + Y : Nat) : Int)] (cf15 _ _) rfl (mono_val hw (walk_nat a0 (X + Y) w0 w (hTx w hw) (by omega))))
    · exact fun w hw => gw rfl (g_eql 24 5 _ _ 32 (walkF (X + Y) a0) (walkF (X + Y) a0) rfl rfl guard24 Tryd.underlying24 Tryd.underlying5 Tryd.sizeOf5 Tryd.isAgg5 (walkF_length _ _ w0) (walkF_length _ _ w0) ⟨by simp, hw⟩)
    · exact fun w hw => gw rfl (g_move _ _ rfl ⟨rfl, hw⟩)
    · exact fun w hw => gw rfl (g_load_all 24 _ (u.heap.size) _ 24 _ rfl (c2.below hw c2.lt) Tryd.underlying24 rfl (zk24 a0 w0) ⟨rfl, hw⟩)
    · exact fun w hw => gw rfl (g_move _ _ rfl ⟨rfl, hw⟩)
    · exact fun w hw => gw rfl (g_ineg 3 _ X _ rfl (wrap_neg X (by omega)) ⟨rfl, hw⟩)
    · exact fun w hw => gw rfl (g_call 15 _ _ [.agg (bc a0).toArray, .int .i64 (-(X : Int))] (cf15 _ _) rfl (mono_val hw (walk_low a0 _ w0 w (hTx w hw) (by omega))))
    · exact fun w hw => gw rfl (g_load_all 24 _ (u.heap.size) _ 24 _ rfl (c2.below hw c2.lt) Tryd.underlying24 rfl (zk24 a0 w0) ⟨rfl, hw⟩)
    · exact fun w hw => gw rfl (g_eql 24 5 _ _ 32 a0 a0 rfl rfl guard24 Tryd.underlying24 Tryd.underlying5 Tryd.sizeOf5 Tryd.isAgg5 w0 w0 ⟨by simp, hw⟩)
    · exact fun w hw => gw rfl (g_pick _ _ _ _ rfl rfl ⟨rfl, hw⟩)
    · exact fun w hw => gw rfl (g_assign _ _ rfl ⟨rfl, hw⟩)
  · simp only [fullL, Act.put, List.setIfInBounds_toArray, List.set_cons_succ, List.set_cons_zero]
    intro w8 hw
    go_wp2_with fail
    go_ret
    exact ⟨rfl, hB2.trans (hw.mono hB2.size)⟩
end Go.Proofs.YthbnlidfgjgncaaDoor.shaAdds
