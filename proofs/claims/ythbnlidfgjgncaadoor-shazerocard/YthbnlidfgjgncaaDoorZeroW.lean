/- ShaZero's walk: the law returns true; nothing that was there has turned. -/
import Derived.Test.YthbnlidfgjgncaaDoorAwake
import Derived.OpenShut
namespace Go.Proofs.YthbnlidfgjgncaaDoor.shaZero
open Go.RowKit
set_option linter.unusedVariables false
set_option maxRecDepth 100000 in
set_option maxHeartbeats 4000000 in
theorem walk (a0 : ByteArray) (w0 : a0.size ≤ maxLen) (w : World) (hT : Tabs w) :
    Calls Tryd.prog 9 #[.string a0] w fun e w' => e = .returned (.bool true) ∧ Below w.heap.size w w' := by
  have hts := hT.size
  have v0 : a0.size ≤ 9223372036854775807 := w0
  clear w0
  by_cases hbig : 1024 < a0.size
  · go_enter Tryd.func9, Tryd.ntmps9
    go_wp2_with fail
    refine (awake_any _ hT).mono ?_; rintro e w1 ⟨rfl, hb1⟩
    go_wp2
    go_ret
    exact ⟨rfl, hb1⟩
  have hsm : a0.size ≤ 1024 := by omega
  have HN : Hid ((more zeroSt a0.data.toList).n ≤ 549755813888) := by show _ ≤ _; rw [more_n, ← Lib.size_eq]; show 0 + _ ≤ _; omega
  go_enter Tryd.func9, Tryd.ntmps9
  go_wp2_with fail
  refine (awake_any _ hT).mono ?_; rintro e w1 ⟨rfl, hb1⟩
  go_wp2_with (first
    | ((with_reducible refine at_alloc 35 ?_); refine L_alloc 35 _ zero35 ?_; intro w2 h2 hb2)
    | ((with_reducible refine stop_list 9 ?_); intro X hX))
  refine hX.out ?_
  have hB2 : Below w.heap.size w w2 := h2.below hb1 hb1.size
  have hTx : ∀ w', Below w2.heap.size w2 w' → Tabs w' := fun w' h => (hT.below hB2 hts).below h (by have := hB2.size; omega)
  simp only [Act.put, List.setIfInBounds_toArray, List.set_cons_zero, List.set_cons_succ]
  refine wp_list_text (by kernel_rfl) [.agg (stc zeroSt).toArray, .agg (bc (sum [])).toArray, .agg (bc (sum [])).toArray, .bool true, .bool true, .agg (stc zeroSt).toArray, .string a0, .agg (stc (more zeroSt a0.data.toList)).toArray, .agg (bc (sum a0.data.toList)).toArray, .string a0, .agg (bc (sum a0.data.toList)).toArray, .bool true, .bool true, .bool true, .agg (stc zeroSt).toArray, .agg (stc zeroSt).toArray, .string a0, .agg (stc (more zeroSt a0.data.toList)).toArray, .agg (bc (sum a0.data.toList)).toArray, .string a0, .agg (bc (sum a0.data.toList)).toArray, .bool true, .bool true, .bool true, .agg (stc zeroSt).toArray, .int .i64 0, .bool true, .bool true, .bool true] (by rfl) (fun w' => Below w2.heap.size w2 w') (Below.refl _ _) ?_ ?_
  · simp only [fullL, Act.put, List.setIfInBounds_toArray, List.set_cons_succ, List.set_cons_zero]
    refine ⟨?_, ?_, ?_, ?_, ?_, ?_, ?_, ?_, ?_, ?_, ?_, ?_, ?_, ?_, ?_, ?_, ?_, ?_, ?_, ?_, ?_, ?_, ?_, ?_, ?_, ?_, ?_, ?_, ?_, trivial⟩
    · exact fun w hw => gw rfl (g_load_all 35 _ (w1.heap.size) _ 35 _ rfl (hb2.below hw hb2.lt) Tryd.underlying35 rfl (zs35 zeroSt zeroSt_ok) ⟨rfl, hw⟩)
    · exact fun w hw => gw rfl (g_call 20 _ _ [.agg (stc zeroSt).toArray] (cf20 _ _) rfl (mono_val hw (key_any zeroSt zeroSt_ok w (hTx w hw) (by decide))))
    · exact fun w hw => gw rfl (g_call 11 _ _ [.string ⟨#[]⟩] (cf11 _ _) rfl (mono_val hw (sum_any ⟨#[]⟩ w (hTx w hw) (by decide))))
    · exact fun w hw => gw rfl (g_eql 24 5 _ _ 32 (sum []) (sum []) rfl rfl guard24 Tryd.underlying24 Tryd.underlying5 Tryd.sizeOf5 Tryd.isAgg5 (sum_length _) (sum_length _) ⟨by simp, hw⟩)
    · exact fun w hw => gw rfl (g_move _ _ rfl ⟨rfl, hw⟩)
    · exact fun w hw => gw rfl (g_load_all 35 _ (w1.heap.size) _ 35 _ rfl (hb2.below hw hb2.lt) Tryd.underlying35 rfl (zs35 zeroSt zeroSt_ok) ⟨rfl, hw⟩)
    · exact fun w hw => gw rfl (g_move _ _ rfl ⟨rfl, hw⟩)
    · exact fun w hw => gw rfl (g_call 18 _ _ [.agg (stc zeroSt).toArray, .string a0] (cf18 _ _) rfl (mono_val hw (more_any zeroSt a0 zeroSt_ok w (hTx w hw) (by show 0 + _ ≤ _; omega))))
    · exact fun w hw => gw rfl (g_call 20 _ _ [.agg (stc (more zeroSt a0.data.toList)).toArray] (cf20 _ _) rfl (mono_val hw (key_any _ (more_ok _ _ zeroSt_ok) w (hTx w hw) HN.out)))
    · exact fun w hw => gw rfl (g_move _ _ rfl ⟨rfl, hw⟩)
    · exact fun w hw => gw rfl (g_call 11 _ _ [.string a0] (cf11 _ _) rfl (mono_val hw (sum_any a0 w (hTx w hw) (by omega))))
    · exact fun w hw => gw rfl (g_eql 24 5 _ _ 32 (sum a0.data.toList) (sum a0.data.toList) rfl rfl guard24 Tryd.underlying24 Tryd.underlying5 Tryd.sizeOf5 Tryd.isAgg5 (sum_length _) (sum_length _) ⟨by simp, hw⟩)
    · exact fun w hw => gw rfl (g_pick _ _ _ _ rfl rfl ⟨rfl, hw⟩)
    · exact fun w hw => gw rfl (g_move _ _ rfl ⟨rfl, hw⟩)
    · exact fun w hw => gw rfl (g_call 17 _ _ [] (cf17 _ _) rfl (mono_val hw (new_any w)))
    · exact fun w hw => gw rfl (g_call 18 _ _ [.agg (stc zeroSt).toArray, .string ⟨#[]⟩] (cf18 _ _) rfl (mono_val hw (more_any zeroSt ⟨#[]⟩ zeroSt_ok w (hTx w hw) (by decide))))
    · exact fun w hw => gw rfl (g_move _ _ rfl ⟨rfl, hw⟩)
    · exact fun w hw => gw rfl (g_call 18 _ _ [.agg (stc zeroSt).toArray, .string a0] (cf18 _ _) rfl (mono_val hw (more_any zeroSt a0 zeroSt_ok w (hTx w hw) (by show 0 + _ ≤ _; omega))))
    · exact fun w hw => gw rfl (g_call 20 _ _ [.agg (stc (more zeroSt a0.data.toList)).toArray] (cf20 _ _) rfl (mono_val hw (key_any _ (more_ok _ _ zeroSt_ok) w (hTx w hw) HN.out)))
    · exact fun w hw => gw rfl (g_move _ _ rfl ⟨rfl, hw⟩)
    · exact fun w hw => gw rfl (g_call 11 _ _ [.string a0] (cf11 _ _) rfl (mono_val hw (sum_any a0 w (hTx w hw) (by omega))))
    · exact fun w hw => gw rfl (g_eql 24 5 _ _ 32 (sum a0.data.toList) (sum a0.data.toList) rfl rfl guard24 Tryd.underlying24 Tryd.underlying5 Tryd.sizeOf5 Tryd.isAgg5 (sum_length _) (sum_length _) ⟨by simp, hw⟩)
    · exact fun w hw => gw rfl (g_pick _ _ _ _ rfl rfl ⟨rfl, hw⟩)
    · exact fun w hw => gw rfl (g_move _ _ rfl ⟨rfl, hw⟩)
    · exact fun w hw => gw rfl (g_load_all 35 _ (w1.heap.size) _ 35 _ rfl (hb2.below hw hb2.lt) Tryd.underlying35 rfl (zs35 zeroSt zeroSt_ok) ⟨rfl, hw⟩)
    · exact fun w hw => gw rfl (g_call 19 _ _ [.agg (stc zeroSt).toArray] (cf19 _ _) rfl (mono_val hw (size_any zeroSt zeroSt_ok w)))
    · exact fun w hw => gw rfl (g_ieql 3 _ _ .i64 0 rfl rfl ⟨rfl, hw⟩)
    · exact fun w hw => gw rfl (g_pick _ _ _ _ rfl rfl ⟨rfl, hw⟩)
    · exact fun w hw => gw rfl (g_assign _ _ rfl ⟨rfl, hw⟩)
  · simp only [fullL, Act.put, List.setIfInBounds_toArray, List.set_cons_succ, List.set_cons_zero]
    intro w8 hw
    go_wp2_with fail
    go_ret
    exact ⟨rfl, hB2.trans (hw.mono hB2.size)⟩
end Go.Proofs.YthbnlidfgjgncaaDoor.shaZero
