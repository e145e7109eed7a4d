/- The calls that every law of layer 2 asks first: they answer as they should, whatever the world is. -/
import Derived.Test.YthbnlidfgjgncaaDoorShaW6
namespace Go.Proofs.YthbnlidfgjgncaaDoor
open Go.RowKit
set_option linter.unusedVariables false
theorem abc_dig : hexL (dig [97, 98, 99]) = [98, 97, 55, 56, 49, 54, 98, 102, 56, 102, 48, 49, 99, 102, 101, 97, 52, 49, 52, 49, 52, 48, 100, 101, 53, 100, 97, 101, 50, 50, 50, 51, 98, 48, 48, 51, 54, 49, 97, 51, 57, 54, 49, 55, 55, 97, 57, 99, 98, 52, 49, 48, 102, 102, 54, 49, 102, 50, 48, 48, 49, 53, 97, 100] := by decide +kernel
theorem cf11 (vs : Array Value) (w : World) : (callFunc 11 vs).run Tryd.prog w = .ok (.enter 11 vs) w := by go_simp
theorem cf13 (vs : Array Value) (w : World) : (callFunc 13 vs).run Tryd.prog w = .ok (.enter 13 vs) w := by go_simp
theorem cf15 (vs : Array Value) (w : World) : (callFunc 15 vs).run Tryd.prog w = .ok (.enter 15 vs) w := by go_simp
theorem cf17 (vs : Array Value) (w : World) : (callFunc 17 vs).run Tryd.prog w = .ok (.enter 17 vs) w := by go_simp
theorem cf19 (vs : Array Value) (w : World) : (callFunc 19 vs).run Tryd.prog w = .ok (.enter 19 vs) w := by go_simp
theorem cf20 (vs : Array Value) (w : World) : (callFunc 20 vs).run Tryd.prog w = .ok (.enter 20 vs) w := by go_simp
theorem guard24 : Tryd.prog.eqGuardType Tryd.prog.depth 24 = false := Tryd.eqGuardType24
theorem zk24 (k : List UInt8) (hk : k.length = 32) : (Tryd.prog.info? 24).map (·.size) = some (bc k).length := by rw [bc_length, hk]; exact size24
theorem zs35 (s : St) (h : s.Ok) : (Tryd.prog.info? 35).map (·.size) = some (stc s).length := by rw [stc_length s h]; exact size35
/-- Calls as the operations of a statement meet them: the value known, the world in the class. -/
theorem mono_val {f : FuncId} {vs : Array Value} {w W : World} {x : Value} (hw : Below W.heap.size W w) (h : Calls Tryd.prog f vs w fun e w' => e = .returned x ∧ Below w.heap.size w w') :
    Calls Tryd.prog f vs w (fun e w'' => ∃ v, e = .returned v ∧ (v = x ∧ Below W.heap.size W w'')) := by
  refine h.mono ?_
  rintro e w' ⟨rfl, hb⟩
  exact ⟨_, rfl, rfl, hw.trans (hb.mono hw.size)⟩
set_option maxRecDepth 100000 in
set_option maxHeartbeats 4000000 in
theorem awake_any (w : World) (hT : Tabs w) : Calls Tryd.prog 10 #[] w fun e w' => e = .returned (.bool true) ∧ Below w.heap.size w w' := by
  have hts := hT.size
  obtain ⟨K, hK⟩ : ∃ K, sum [97, 98, 99] = K := ⟨_, rfl⟩
  obtain ⟨S, hS⟩ : ∃ S, more zeroSt [97] = S := ⟨_, rfl⟩
  have kl : K.length = 32 := by rw [← hK]; exact sum_length _
  have so : S.Ok := by rw [← hS]; exact more_ok _ _ zeroSt_ok
  have sn : S.n = 1 := by rw [← hS]; exact more_n _ _
  have sr : Rep [97] S := by rw [← hS]; exact rep_more [] [97] _ rep_zero
  have hx : hexL K = [98, 97, 55, 56, 49, 54, 98, 102, 56, 102, 48, 49, 99, 102, 101, 97, 52, 49, 52, 49, 52, 48, 100, 101, 53, 100, 97, 101, 50, 50, 50, 51, 98, 48, 48, 51, 54, 49, 97, 51, 57, 54, 49, 55, 55, 97, 57, 99, 98, 52, 49, 48, 102, 102, 54, 49, 102, 50, 48, 48, 49, 53, 97, 100] := by
    rw [← hK, sum_dig]; exact abc_dig
  have hk2 : key (more S [98, 99]) = K := by rw [key_more [97] [98, 99] S sr, ← hK]; rfl
  have HX : Hid (hexL K = [98, 97, 55, 56, 49, 54, 98, 102, 56, 102, 48, 49, 99, 102, 101, 97, 52, 49, 52, 49, 52, 48, 100, 101, 53, 100, 97, 101, 50, 50, 50, 51, 98, 48, 48, 51, 54, 49, 97, 51, 57, 54, 49, 55, 55, 97, 57, 99, 98, 52, 49, 48, 102, 102, 54, 49, 102, 50, 48, 48, 49, 53, 97, 100]) := hx
  have HK2 : Hid (key (more S [98, 99]) = K) := hk2
  have HK : Hid (sum [97, 98, 99] = K) := hK
  have HS : Hid (more zeroSt [97] = S) := hS
  have SN : Hid (S.n = 1) := sn
  clear hx hk2 hK hS sn sr
  go_enter Tryd.func10, Tryd.ntmps10
  go_wp2_with fail
  refine (sum_any ⟨#[97, 98, 99]⟩ w hT (by decide)).mono ?_
  rw [show sum (⟨#[97, 98, 99]⟩ : ByteArray).data.toList = K from HK.out]
  rintro e w1 ⟨rfl, hb1⟩
  go_wp2_with (first
    | ((with_reducible refine at_alloc 24 ?_); refine L_alloc 24 _ zero24 ?_; intro w2 h2 hb2)
    | ((with_reducible refine at_store 24 ?_); refine L_store_all 24 _ _ w1.heap.size (bc K) _ 24 rfl rfl hb2 (zk24 K kl) (by rw [bc_length, kl]; rfl) (bc_one _) ?_; intro w3 h3 hb3))
  have hB2 : Below w.heap.size w w2 := h2.below hb1 hb1.size
  have hB3 : Below w.heap.size w w3 := h3.below hB2 hb1.size
  have m1 := hb1.size
  have m3 := hb3.lt
  refine (new_any w3).mono ?_; rintro e w4 ⟨rfl, hb4⟩
  have hB4 := hB3.trans (hb4.mono (by omega))
  have c4 := hb3.below hb4 m3
  have m4 := hb4.size
  go_wp2_with fail
  refine (more_any zeroSt ⟨#[97]⟩ zeroSt_ok w4 (hT.below hB4 hts) (by decide)).mono ?_
  rw [show more zeroSt (⟨#[97]⟩ : ByteArray).data.toList = S from HS.out]
  rintro e w5 ⟨rfl, hb5⟩
  have hB5 := hB4.trans (hb5.mono (by omega))
  have c5 := c4.below hb5 (by omega)
  have m5 := hb5.size
  go_wp2_with (first
    | ((with_reducible refine at_alloc 35 ?_); refine L_alloc 35 _ zero35 ?_; intro w6 h6 hb6)
    | ((with_reducible refine at_store 35 ?_); refine L_store_all 35 _ _ w5.heap.size (stc S) _ 35 rfl rfl hb6 (zs35 S so) (by rw [stc_length S so]; rfl) (stc_one _) ?_; intro w7 h7 hb7))
  have hB7 : Below w.heap.size w w7 := h7.below (h6.below hB5 (by omega)) (by omega)
  have c7 := h7.blk (h6.blk c5 (by omega)) (by omega)
  clear hB2 hB3 hB4 hB5 h2 h3 hb1 hb2 hb3 hb4 hb5 hb6 h6 h7 c4 c5
  simp only [Act.put, List.setIfInBounds_toArray, List.set_cons_zero, List.set_cons_succ]
  have hTx : ∀ w', Below w7.heap.size w7 w' → Tabs w' := fun w' h => (hT.below hB7 hts).below h (by have := hB7.size; omega)
  refine wp_region_fixed (by kernel_rfl) (by kernel_rfl) [.agg (bc K).toArray, .string ⟨#[98, 97, 55, 56, 49, 54, 98, 102, 56, 102, 48, 49, 99, 102, 101, 97, 52, 49, 52, 49, 52, 48, 100, 101, 53, 100, 97, 101, 50, 50, 50, 51, 98, 48, 48, 51, 54, 49, 97, 51, 57, 54, 49, 55, 55, 97, 57, 99, 98, 52, 49, 48, 102, 102, 54, 49, 102, 50, 48, 48, 49, 53, 97, 100]⟩, .bool true, .bool true, .agg (stc S).toArray, .agg (stc (more S [98, 99])).toArray, .agg (bc K).toArray, .agg (bc K).toArray, .bool true, .bool true, .bool true, .agg (stc S).toArray, .int .i64 1, .bool true, .bool true, .bool true, .agg (stc S).toArray, .agg (stc (more S [120])).toArray, .int .i64 2, .bool true, .bool true, .bool true, .agg (bc K).toArray, .agg (bc K).toArray, .agg (bc K).toArray, .bool true, .bool true, .bool true, .agg (bc K).toArray, .agg (bc (sum K)).toArray, .slice (some ⟨w1.heap.size, 0, none⟩) 32 32, .string ⟨K.toArray⟩, .agg (bc (sum K)).toArray, .bool true, .bool true, .bool true] rfl (fun w' => Below w7.heap.size w7 w') (Below.refl _ _).drew ?_ ?_
  · simp only [fullL, Act.put, List.setIfInBounds_toArray, List.set_cons_succ, List.set_cons_zero]
    refine ⟨?_, ?_, ?_, ?_, ?_, ?_, ?_, ?_, ?_, ?_, ?_, ?_, ?_, ?_, ?_, ?_, ?_, ?_, ?_, ?_, ?_, ?_, ?_, ?_, ?_, ?_, ?_, ?_, ?_, ?_, ?_, ?_, ?_, ?_, ?_, ?_, trivial⟩
    · exact fun w hw => gw rfl (g_load_all 24 _ w1.heap.size _ 24 _ rfl (c7.below hw c7.lt) Tryd.underlying24 rfl (zk24 K kl) ⟨rfl, hw⟩)
    · exact fun w hw => gw rfl (g_call 13 _ _ [.agg (bc K).toArray] (cf13 _ _) rfl (mono_val hw (by have h := hex_any K kl w; rw [HX.out] at h; exact h)))
    · exact fun w hw => gw rfl (g_seql 9 _ _ ⟨#[98, 97, 55, 56, 49, 54, 98, 102, 56, 102, 48, 49, 99, 102, 101, 97, 52, 49, 52, 49, 52, 48, 100, 101, 53, 100, 97, 101, 50, 50, 50, 51, 98, 48, 48, 51, 54, 49, 97, 51, 57, 54, 49, 55, 55, 97, 57, 99, 98, 52, 49, 48, 102, 102, 54, 49, 102, 50, 48, 48, 49, 53, 97, 100]⟩ rfl rfl ⟨rfl, hw⟩)
    · exact fun w hw => gw rfl (g_move _ _ rfl ⟨rfl, hw⟩)
    · exact fun w hw => gw rfl (g_load_all 35 _ w5.heap.size _ 35 _ rfl (hb7.below hw hb7.lt) Tryd.underlying35 rfl (zs35 S so) ⟨rfl, hw⟩)
    · exact fun w hw => gw rfl (g_call 18 _ _ [.agg (stc S).toArray, .string ⟨#[98, 99]⟩] (cf18 _ _) rfl (mono_val hw (more_any S ⟨#[98, 99]⟩ so w (hTx w hw) (by rw [SN.out]; decide))))
    · exact fun w hw => gw rfl (g_call 20 _ _ [.agg (stc (more S [98, 99])).toArray] (cf20 _ _) rfl (mono_val hw (by have h := key_any (more S [98, 99]) (more_ok _ _ so) w (hTx w hw) (by rw [more_n, SN.out]; decide); rw [HK2.out] at h; exact h)))
    · exact fun w hw => gw rfl (g_load_all 24 _ w1.heap.size _ 24 _ rfl (c7.below hw c7.lt) Tryd.underlying24 rfl (zk24 K kl) ⟨rfl, hw⟩)
    · exact fun w hw => gw rfl (g_eql 24 5 _ _ 32 K K rfl rfl guard24 Tryd.underlying24 Tryd.underlying5 Tryd.sizeOf5 Tryd.isAgg5 kl kl ⟨by simp, hw⟩)
    · exact fun w hw => gw rfl (g_pick _ _ _ _ rfl rfl ⟨rfl, hw⟩)
    · exact fun w hw => gw rfl (g_move _ _ rfl ⟨rfl, hw⟩)
    · exact fun w hw => gw rfl (g_load_all 35 _ w5.heap.size _ 35 _ rfl (hb7.below hw hb7.lt) Tryd.underlying35 rfl (zs35 S so) ⟨rfl, hw⟩)
    · exact fun w hw => gw rfl (g_call 19 _ _ [.agg (stc S).toArray] (cf19 _ _) rfl (mono_val hw (by have h := size_any S so w; rw [SN.out] at h; exact h)))
    · exact fun w hw => gw rfl (g_ieql 3 _ _ .i64 1 rfl rfl ⟨rfl, hw⟩)
    · exact fun w hw => gw rfl (g_pick _ _ _ _ rfl rfl ⟨rfl, hw⟩)
    · exact fun w hw => gw rfl (g_move _ _ rfl ⟨rfl, hw⟩)
    · exact fun w hw => gw rfl (g_load_all 35 _ w5.heap.size _ 35 _ rfl (hb7.below hw hb7.lt) Tryd.underlying35 rfl (zs35 S so) ⟨rfl, hw⟩)
    · exact fun w hw => gw rfl (g_call 18 _ _ [.agg (stc S).toArray, .string ⟨#[120]⟩] (cf18 _ _) rfl (mono_val hw (more_any S ⟨#[120]⟩ so w (hTx w hw) (by rw [SN.out]; decide))))
    · exact fun w hw => gw rfl (g_call 19 _ _ [.agg (stc (more S [120])).toArray] (cf19 _ _) rfl (mono_val hw (by have h := size_any (more S [120]) (more_ok _ _ so) w; rw [more_n, SN.out] at h; exact h)))
    · exact fun w hw => gw rfl (g_ieql 3 _ _ .i64 2 rfl rfl ⟨rfl, hw⟩)
    · exact fun w hw => gw rfl (g_pick _ _ _ _ rfl rfl ⟨rfl, hw⟩)
    · exact fun w hw => gw rfl (g_move _ _ rfl ⟨rfl, hw⟩)
    · exact fun w hw => gw rfl (g_load_all 24 _ w1.heap.size _ 24 _ rfl (c7.below hw c7.lt) Tryd.underlying24 rfl (zk24 K kl) ⟨rfl, hw⟩)
    · exact fun w hw => gw rfl (g_call 15 _ _ [.agg (bc K).toArray, .int .i64 0] (cf15 _ _) rfl (mono_val hw (walk_min K 0 0 kl w (hTx w hw) (by decide))))
    · exact fun w hw => gw rfl (g_load_all 24 _ w1.heap.size _ 24 _ rfl (c7.below hw c7.lt) Tryd.underlying24 rfl (zk24 K kl) ⟨rfl, hw⟩)
    · exact fun w hw => gw rfl (g_eql 24 5 _ _ 32 K K rfl rfl guard24 Tryd.underlying24 Tryd.underlying5 Tryd.sizeOf5 Tryd.isAgg5 kl kl ⟨by simp, hw⟩)
    · exact fun w hw => gw rfl (g_pick _ _ _ _ rfl rfl ⟨rfl, hw⟩)
    · exact fun w hw => gw rfl (g_move _ _ rfl ⟨rfl, hw⟩)
    · exact fun w hw => gw rfl (g_load_all 24 _ w1.heap.size _ 24 _ rfl (c7.below hw c7.lt) Tryd.underlying24 rfl (zk24 K kl) ⟨rfl, hw⟩)
    · exact fun w hw => gw rfl (g_call 15 _ _ [.agg (bc K).toArray, .int .i64 1] (cf15 _ _) rfl (mono_val hw (walk_min K 1 1 kl w (hTx w hw) (by decide))))
    · exact fun w hw => gw rfl (g_val _ w (by have h := run_slice_all w w1.heap.size 0 32 24 5 Tryd.underlying24 Tryd.sizeOf5; go_simp) ⟨rfl, hw⟩)
    · exact fun w hw => gw rfl (g_val _ w (by have h := blk_string (o := 0) (n := 32) (cap := 32) (c7.below hw c7.lt) K kl (by rw [List.drop_zero, List.take_of_length_le (by rw [bc_length]; omega)]); go_simp) ⟨rfl, hw⟩)
    · exact fun w hw => gw rfl (g_call 11 _ _ [.string ⟨K.toArray⟩] (cf11 _ _) rfl (mono_val hw (sum_any ⟨K.toArray⟩ w (hTx w hw) (by show K.toArray.size ≤ _; simp [kl]))))
    · exact fun w hw => gw rfl (g_eql 24 5 _ _ 32 (sum K) (sum K) rfl rfl guard24 Tryd.underlying24 Tryd.underlying5 Tryd.sizeOf5 Tryd.isAgg5 (sum_length _) (sum_length _) ⟨by simp, hw⟩)
    · exact fun w hw => gw rfl (g_pick _ _ _ _ rfl rfl ⟨rfl, hw⟩)
    · exact fun w hw => gw rfl (g_assign _ _ rfl ⟨rfl, hw⟩)
  · simp only [fullL, Act.put, List.setIfInBounds_toArray, List.set_cons_succ, List.set_cons_zero]
    intro w8 hw
    go_wp2_with fail
    go_ret
    exact ⟨rfl, hB7.trans (hw.mono hB7.size)⟩
end Go.Proofs.YthbnlidfgjgncaaDoor
