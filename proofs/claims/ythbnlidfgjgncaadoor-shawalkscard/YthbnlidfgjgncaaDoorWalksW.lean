/- ShaWalks' walk: the law returns true; nothing that was there has turned. -/
import Derived.Test.YthbnlidfgjgncaaDoorAwake
import Derived.Test.YthbnlidfgjgncaaDoorBytesArg
import Derived.Test.YthbnlidfgjgncaaDoorRef5
import Derived.OpenShut
namespace Go.Proofs.YthbnlidfgjgncaaDoor.shaWalks
open Go.RowKit
set_option linter.unusedVariables false
theorem cf16 (vs : Array Value) (w : World) : (callFunc 16 vs).run Tryd.prog w = .ok (.enter 16 vs) w := by go_simp
set_option maxRecDepth 100000 in
set_option maxHeartbeats 4000000 in
theorem walk (a0 : List UInt8) (w0 : a0.length = 32) (a1 : Int) (w1 : (Lit.int .i64 a1).wf = true) (u : World) (hT : Tabs u) :
    Calls Tryd.prog 4 #[.agg (bc a0).toArray, .int .i64 a1] u fun e w' => e = .returned (.bool true) ∧ Below u.heap.size u w' := by
  have hts := hT.size
  clear w1
  obtain ⟨m, hm'⟩ : ∃ m, min a1 4096 = m := ⟨_, rfl⟩
  have hm : Hid (min a1 4096 = m) := hm'
  clear hm'
  go_enter Tryd.func4, Tryd.ntmps4
  go_wp2_with (first
    | ((with_reducible refine at_box 24 ?_); refine L_box 24 _ (bc a0) rfl ?_; intro w1 h1 hb1))
  have hB1 : Below u.heap.size u w1 := h1.below (Below.refl _ _) (Nat.le_refl _)
  have n1 := hb1.lt
  refine (awake_any _ (hT.below hB1 hts)).mono ?_; rintro e w2 ⟨rfl, hb2⟩
  have hB2 : Below u.heap.size u w2 := hB1.trans (hb2.mono (by omega))
  have c2 := hb1.below hb2 n1
  have hTx : ∀ w', Below w2.heap.size w2 w' → Tabs w' := fun w' h => (hT.below hB2 hts).below h (by have := hB2.size; omega)
  clear h1 hb1 hb2 hB1
  by_cases hbig : 20 < a1
  · go_wp2_with fail
    go_ret
    exact ⟨rfl, hB2⟩
  go_wp2_with fail
  refine wp_region_fixed (by kernel_rfl) (by kernel_rfl) [.agg (bc a0).toArray, .int .i64 a1, .agg (bc (walkF m.toNat a0)).toArray, .agg (bc a0).toArray, .int .i64 a1, .agg (bc (walkF m.toNat a0)).toArray, .bool true, .bool true] (by rfl) (fun w' => Below w2.heap.size w2 w') (Below.refl _ _).drew ?_ ?_
  · simp only [fullL, Act.put, List.setIfInBounds_toArray, List.set_cons_succ, List.set_cons_zero]
    refine ⟨?_, ?_, ?_, ?_, ?_, ?_, ?_, ?_, trivial⟩
    · exact fun w hw => gw rfl (g_load_all 24 _ (u.heap.size) _ 24 _ rfl (c2.below hw c2.lt) Tryd.underlying24 rfl (zk24 a0 w0) ⟨rfl, hw⟩)
    · exact fun w hw => gw rfl (g_move _ _ rfl ⟨rfl, hw⟩)
    · exact fun w hw => gw rfl (g_call 15 _ _ [.agg (bc a0).toArray, .int .i64 a1] (cf15 _ _) rfl (mono_val hw (walk_min a0 a1 m w0 w (hTx w hw) hm.out)))
    · exact fun w hw => gw rfl (g_load_all 24 _ (u.heap.size) _ 24 _ rfl (c2.below hw c2.lt) Tryd.underlying24 rfl (zk24 a0 w0) ⟨rfl, hw⟩)
    · exact fun w hw => gw rfl (g_move _ _ rfl ⟨rfl, hw⟩)
    · exact fun w hw => gw rfl (g_call 16 _ _ [.agg (bc a0).toArray, .int .i64 a1] (cf16 _ _) rfl (mono_val hw (rwalk_min a0 a1 m w0 w hm.out)))
    · exact fun w hw => gw rfl (g_eql 24 5 _ _ 32 (walkF m.toNat a0) (walkF m.toNat a0) rfl rfl guard24 Tryd.underlying24 Tryd.underlying5 Tryd.sizeOf5 Tryd.isAgg5 (walkF_length _ _ w0) (walkF_length _ _ w0) ⟨by simp, hw⟩)
    · exact fun w hw => gw rfl (g_assign _ _ rfl ⟨rfl, hw⟩)
  · simp only [fullL, Act.put, List.setIfInBounds_toArray, List.set_cons_succ, List.set_cons_zero]
    intro w8 hw
    go_wp2_with fail
    go_ret
    exact ⟨rfl, hB2.trans (hw.mono hB2.size)⟩
end Go.Proofs.YthbnlidfgjgncaaDoor.shaWalks
