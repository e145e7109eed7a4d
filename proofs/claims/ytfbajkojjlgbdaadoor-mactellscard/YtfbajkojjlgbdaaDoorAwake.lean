/- The calls that every law of layer 3 asks first: they answer as they should, whatever the world is. -/
import Derived.Test.YtfbajkojjlgbdaaDoorLarge
import Derived.Test.YtfbajkojjlgbdaaDoorRef5
namespace Go.Proofs.YtfbajkojjlgbdaaDoor
open Go.RowKit
set_option linter.unusedVariables false

theorem hi_tag : hexL (tag [11, 11, 11, 11, 11, 11, 11, 11, 11, 11, 11, 11, 11, 11, 11, 11, 11, 11, 11, 11] [72, 105, 32, 84, 104, 101, 114, 101]) = [98, 48, 51, 52, 52, 99, 54, 49, 100, 56, 100, 98, 51, 56, 53, 51, 53, 99, 97, 56, 97, 102, 99, 101, 97, 102, 48, 98, 102, 49, 50, 98, 56, 56, 49, 100, 99, 50, 48, 48, 99, 57, 56, 51, 51, 100, 97, 55, 50, 54, 101, 57, 51, 55, 54, 99, 50, 101, 51, 50, 99, 102, 102, 55] := by
  rw [tag, sum_dig, sum_dig]
  decide +kernel
theorem cut_cut (n : Int) : cutN (cutN n) = cutN n := by unfold cutN; omega
theorem right_self (K T : ByteArray) (n : Int) : rightB K T (fst K T n) = decide (8 ≤ cutN n) := by
  unfold rightB
  rw [fst_size]
  have e : fst K T n = fst K T (cutN n : Int) := by unfold fst; rw [cut_cut]
  rw [← e]
  simp
theorem run_fneq (w : World) (f : Fn) (c d : Array Value) : (binOp .neq 33 (.func f c d) .nilFunc).run Tryd.prog w = .ok (.bool true) w := by
  have h : ∀ n, (Op.equalIn (n + 1) 33 (.func f c d) .nilFunc).run Tryd.prog w = .ok false w := by
    intro n
    rw [Op.equalIn]
    simp only [Sem.run_bind, run_underlying Tryd.underlying33, Result.andThen_ok, Sem.run_pure]
  have h2 : (Op.equal 33 (.func f c d) .nilFunc).run Tryd.prog w = .ok false w := h 9999
  simp [binOp, h2]
section
variable {P : Program} {a : Act} {w : World} {K : Value → World → Prop} {dst : Option Tmp} {ty : TypeId} {pos : String} {aft : Array Edge} {gd : Option (Nat × Bool)}
/-- A call of a closure. -/
theorem g_callc (x : Operand) (f : FuncId) (args : List Operand) (ts : Array TypeId) (cap : Array Value) (vs : List Value) (hx : a.eval x = .func (.func f) #[] cap) (hc : (callFunc f (vs.toArray ++ cap)).run P w = .ok (.enter f (vs.toArray ++ cap)) w) (hv : args.map a.eval = vs)
    (h : Calls P f (vs.toArray ++ cap) w (fun e w'' => ∃ v, e = .returned v ∧ K v w'')) : gives P ⟨dst, .call { callee := .value x, args := args.toArray, argTypes := ts }, ty, pos, aft, gd⟩ a w K := by
  unfold gives
  simp only [execOp, resolve, hx, Deferred.ofValue, invoke, List.map_toArray, hv, Sem.run_bind, Sem.run_pure, Result.andThen_ok, Array.empty_append, hc]
  exact h
end
theorem kf11 (vs : Array Value) (w : World) : (callFunc 11 vs).run Tryd.prog w = .ok (.enter 11 vs) w := by go_simp
theorem kf13 (vs : Array Value) (w : World) : (callFunc 13 vs).run Tryd.prog w = .ok (.enter 13 vs) w := by go_simp
theorem kf15 (vs : Array Value) (w : World) : (callFunc 15 vs).run Tryd.prog w = .ok (.enter 15 vs) w := by go_simp
theorem kf17 (vs : Array Value) (w : World) : (callFunc 17 vs).run Tryd.prog w = .ok (.enter 17 vs) w := by go_simp
theorem kf19 (vs : Array Value) (w : World) : (callFunc 19 vs).run Tryd.prog w = .ok (.enter 19 vs) w := by go_simp
theorem kf21 (vs : Array Value) (w : World) : (callFunc 21 vs).run Tryd.prog w = .ok (.enter 21 vs) w := by go_simp
theorem kf25 (vs : Array Value) (w : World) : (callFunc 25 vs).run Tryd.prog w = .ok (.enter 25 vs) w := by go_simp

set_option maxRecDepth 100000 in
set_option maxHeartbeats 4000000 in
theorem awake_any (w : World) (hT : Tabs w) : Calls Tryd.prog 9 #[] w fun e w' => e = .returned (.bool true) ∧ Below w.heap.size w w' := by
  have hts := hT.size
  obtain ⟨K, hK⟩ : ∃ K, tag [11, 11, 11, 11, 11, 11, 11, 11, 11, 11, 11, 11, 11, 11, 11, 11, 11, 11, 11, 11] [72, 105, 32, 84, 104, 101, 114, 101] = K := ⟨_, rfl⟩
  have kl : K.length = 32 := by rw [← hK]; exact tag_length _ _
  have HX : Hid (hexL K = [98, 48, 51, 52, 52, 99, 54, 49, 100, 56, 100, 98, 51, 56, 53, 51, 53, 99, 97, 56, 97, 102, 99, 101, 97, 102, 48, 98, 102, 49, 50, 98, 56, 56, 49, 100, 99, 50, 48, 48, 99, 57, 56, 51, 51, 100, 97, 55, 50, 54, 101, 57, 51, 55, 54, 99, 50, 101, 51, 50, 99, 102, 102, 55]) := by show _ = _; rw [← hK]; exact hi_tag
  have HK : Hid (tag (⟨#[11, 11, 11, 11, 11, 11, 11, 11, 11, 11, 11, 11, 11, 11, 11, 11, 11, 11, 11, 11]⟩ : ByteArray).data.toList (⟨#[72, 105, 32, 84, 104, 101, 114, 101]⟩ : ByteArray).data.toList = K) := hK
  have HKS : Hid ((⟨K.toArray⟩ : ByteArray).size ≤ 549755813888) := by show K.toArray.size ≤ _; simp [kl]
  obtain ⟨T1, hT1⟩ : ∃ T1, tag [107] [120] = T1 := ⟨_, rfl⟩
  have t1l : T1.length = 32 := by rw [← hT1]; exact tag_length _ _
  have HT1 : Hid (tag [107] (⟨#[120]⟩ : ByteArray).data.toList = T1) := hT1
  have HT1B : Hid (tag (⟨#[107]⟩ : ByteArray).data.toList (⟨#[120]⟩ : ByteArray).data.toList = T1) := hT1
  obtain ⟨O, hO⟩ : ∃ O, tag K [110] = O := ⟨_, rfl⟩
  have ol : O.length = 32 := by rw [← hO]; exact tag_length _ _
  have HO : Hid (tag K (⟨#[110]⟩ : ByteArray).data.toList = O) := hO
  have HO2 : Hid (tag (⟨K.toArray⟩ : ByteArray).data.toList (⟨#[110]⟩ : ByteArray).data.toList = O) := hO
  obtain ⟨F10, h10⟩ : ∃ F, fst ⟨#[107]⟩ ⟨#[120]⟩ 10 = F := ⟨_, rfl⟩
  obtain ⟨F8, h8⟩ : ∃ F, fst ⟨#[107]⟩ ⟨#[120]⟩ 8 = F := ⟨_, rfl⟩
  obtain ⟨F7, h7⟩ : ∃ F, fst ⟨#[107]⟩ ⟨#[120]⟩ 7 = F := ⟨_, rfl⟩
  have H10 : Hid (fst ⟨#[107]⟩ ⟨#[120]⟩ 10 = F10) := h10
  have H8 : Hid (fst ⟨#[107]⟩ ⟨#[120]⟩ 8 = F8) := h8
  have H7 : Hid (fst ⟨#[107]⟩ ⟨#[120]⟩ 7 = F7) := h7
  have S10 : Hid (F10.size = 10) := by show _ = _; rw [← h10, fst_size]; rfl
  have S8 : Hid (F8.size ≤ maxLen) := by show _ ≤ _; rw [← h8, fst_size]; decide
  have S7 : Hid (F7.size ≤ maxLen) := by show _ ≤ _; rw [← h7, fst_size]; decide
  have R8 : Hid (rightB ⟨#[107]⟩ ⟨#[120]⟩ F8 = true) := by show _ = _; rw [← h8, right_self]; rfl
  have R7 : Hid (rightB ⟨#[107]⟩ ⟨#[120]⟩ F7 = false) := by show _ = _; rw [← h7, right_self]; rfl
  clear hK hT1 hO h10 h8 h7
  go_enter Tryd.func9, Tryd.ntmps9
  go_wp2_with fail
  refine (tag_any ⟨#[11, 11, 11, 11, 11, 11, 11, 11, 11, 11, 11, 11, 11, 11, 11, 11, 11, 11, 11, 11]⟩ ⟨#[72, 105, 32, 84, 104, 101, 114, 101]⟩ (by decide) (by decide) w hT).mono ?_; rw [HK.out]; rintro e w1 ⟨rfl, hb1⟩
  have n1 := hb1.size
  go_wp2_with (first
    | ((with_reducible refine at_alloc 23 ?_); refine L_alloc 23 _ zero23 ?_; intro w2 h2 hb2)
    | ((with_reducible refine at_store 23 ?_); refine L_store_all 23 _ _ w1.heap.size (bc K) _ 23 rfl rfl hb2 (zk23 K kl) (by rw [bc_length, kl]; rfl) (bc_one _) ?_; intro w3 h3 hb3))
  have hB3 : Below w.heap.size w w3 := h3.below (h2.below hb1 n1) n1
  have n3 := hb3.lt
  clear h2 h3 hb1 hb2
  refine (with_any ⟨#[107]⟩ (by decide) w3 (hT.below hB3 hts)).mono ?_; rintro e w5 ⟨p, q, rfl, hp, hq, bp, bq, hb5⟩
  have hB5 := hB3.trans (hb5.mono (by omega))
  have c3 := hb3.below hb5 n3
  have n5 := hb5.size
  clear hb3 hB3
  replace bp : Blk w5 p (stc (nearSt [107])) 47 := bp
  replace bq : Blk w5 q (stc (farSt [107])) 47 := bq
  have hTx : ∀ w', Below w5.heap.size w5 w' → Tabs w' := fun w' h => (hT.below hB5 hts).below h (by have := hB5.size; omega)
  go_wp2_with fail
  refine wp_region_fixed (by kernel_rfl) (by kernel_rfl) [.func (.func 25) #[] #[.pointer (some ⟨p, 0, none⟩), .pointer (some ⟨q, 0, none⟩)], .bool true, .bool true, .agg (bc K).toArray, .string ⟨#[98, 48, 51, 52, 52, 99, 54, 49, 100, 56, 100, 98, 51, 56, 53, 51, 53, 99, 97, 56, 97, 102, 99, 101, 97, 102, 48, 98, 102, 49, 50, 98, 56, 56, 49, 100, 99, 50, 48, 48, 99, 57, 56, 51, 51, 100, 97, 55, 50, 54, 101, 57, 51, 55, 54, 99, 50, 101, 51, 50, 99, 102, 102, 55]⟩, .bool true, .bool true, .bool true, .func (.func 25) #[] #[.pointer (some ⟨p, 0, none⟩), .pointer (some ⟨q, 0, none⟩)], .agg (bc T1).toArray, .agg (bc T1).toArray, .bool true, .bool true, .bool true, .string F10, .int .i64 10, .bool true, .bool true, .bool true, .string F8, .bool true, .bool true, .bool true, .string F7, .bool false, .bool true, .bool true, .bool true, .agg (bc K).toArray, .agg (bc O).toArray, .slice (some ⟨w1.heap.size, 0, none⟩) 32 32, .string ⟨K.toArray⟩, .agg (bc O).toArray, .bool true, .bool true, .bool true] (by rfl) (fun w' => Below w5.heap.size w5 w') (Below.refl _ _).drew ?_ ?_
  · simp only [fullL, Act.put, List.setIfInBounds_toArray, List.set_cons_succ, List.set_cons_zero]
    refine ⟨?_, ?_, ?_, ?_, ?_, ?_, ?_, ?_, ?_, ?_, ?_, ?_, ?_, ?_, ?_, ?_, ?_, ?_, ?_, ?_, ?_, ?_, ?_, ?_, ?_, ?_, ?_, ?_, ?_, ?_, ?_, ?_, ?_, ?_, ?_, ?_, trivial⟩
    · exact fun w hw => gw rfl (g_move _ _ rfl ⟨rfl, hw⟩)
    · exact fun w hw => gw rfl (g_val _ w (by have h := run_fneq w (.func 25) #[] #[.pointer (some ⟨p, 0, none⟩), .pointer (some ⟨q, 0, none⟩)]; go_simp) ⟨rfl, hw⟩)
    · exact fun w hw => gw rfl (g_move _ _ rfl ⟨rfl, hw⟩)
    · exact fun w hw => gw rfl (g_load_all 23 _ (w1.heap.size) _ 23 _ rfl (c3.below hw c3.lt) Tryd.underlying23 rfl (zk23 K kl) ⟨rfl, hw⟩)
    · exact fun w hw => gw rfl (g_call 21 _ _ [.agg (bc K).toArray] (kf21 _ _) rfl (mono_val hw (by have h := rhex_any K kl w; rw [HX.out] at h; exact h)))
    · exact fun w hw => gw rfl (g_seql 9 _ _ ⟨#[98, 48, 51, 52, 52, 99, 54, 49, 100, 56, 100, 98, 51, 56, 53, 51, 53, 99, 97, 56, 97, 102, 99, 101, 97, 102, 48, 98, 102, 49, 50, 98, 56, 56, 49, 100, 99, 50, 48, 48, 99, 57, 56, 51, 51, 100, 97, 55, 50, 54, 101, 57, 51, 55, 54, 99, 50, 101, 51, 50, 99, 102, 102, 55]⟩ rfl rfl ⟨rfl, hw⟩)
    · exact fun w hw => gw rfl (g_pick _ _ _ _ rfl rfl ⟨rfl, hw⟩)
    · exact fun w hw => gw rfl (g_move _ _ rfl ⟨rfl, hw⟩)
    · exact fun w hw => gw rfl (g_move _ _ rfl ⟨rfl, hw⟩)
    · exact fun w hw => gw rfl (g_callc _ 25 _ _ #[.pointer (some ⟨p, 0, none⟩), .pointer (some ⟨q, 0, none⟩)] [.string ⟨#[120]⟩] rfl (kf25 _ _) rfl (mono_val hw (by have h := maker_any [107] ⟨#[120]⟩ (by decide) p q w (hTx w hw) (bp.below hw bp.lt) (bq.below hw bq.lt); rw [HT1.out] at h; exact h)))
    · exact fun w hw => gw rfl (g_call 11 _ _ [.string ⟨#[107]⟩, .string ⟨#[120]⟩] (kf11 _ _) rfl (mono_val hw (by have h := tag_any ⟨#[107]⟩ ⟨#[120]⟩ (by decide) (by decide) w (hTx w hw); rw [HT1B.out] at h; exact h)))
    · exact fun w hw => gw rfl (g_eql 23 5 _ _ 32 T1 T1 rfl rfl guard23 Tryd.underlying23 Tryd.underlying5 Tryd.sizeOf5 Tryd.isAgg5 t1l t1l ⟨by simp, hw⟩)
    · exact fun w hw => gw rfl (g_pick _ _ _ _ rfl rfl ⟨rfl, hw⟩)
    · exact fun w hw => gw rfl (g_move _ _ rfl ⟨rfl, hw⟩)
    · exact fun w hw => gw rfl (g_call 15 _ _ [.string ⟨#[107]⟩, .string ⟨#[120]⟩, .int .i64 10] (kf15 _ _) rfl (mono_val hw (by have h := short_any ⟨#[107]⟩ ⟨#[120]⟩ 10 (by decide) (by decide) w (hTx w hw); rw [H10.out] at h; exact h)))
    · exact fun w hw => gw rfl (g_val _ w (by have h := S10.out; go_simp) ⟨rfl, hw⟩)
    · exact fun w hw => gw rfl (g_ieql 3 _ _ .i64 10 rfl rfl ⟨rfl, hw⟩)
    · exact fun w hw => gw rfl (g_pick _ _ _ _ rfl rfl ⟨rfl, hw⟩)
    · exact fun w hw => gw rfl (g_move _ _ rfl ⟨rfl, hw⟩)
    · exact fun w hw => gw rfl (g_call 15 _ _ [.string ⟨#[107]⟩, .string ⟨#[120]⟩, .int .i64 8] (kf15 _ _) rfl (mono_val hw (by have h := short_any ⟨#[107]⟩ ⟨#[120]⟩ 8 (by decide) (by decide) w (hTx w hw); rw [H8.out] at h; exact h)))
    · exact fun w hw => gw rfl (g_call 17 _ _ [.string ⟨#[107]⟩, .string ⟨#[120]⟩, .string F8] (kf17 _ _) rfl (mono_val hw (by have h := mright_any ⟨#[107]⟩ ⟨#[120]⟩ F8 (by decide) (by decide) S8.out w (hTx w hw); rw [R8.out] at h; exact h)))
    · exact fun w hw => gw rfl (g_pick _ _ _ _ rfl rfl ⟨rfl, hw⟩)
    · exact fun w hw => gw rfl (g_move _ _ rfl ⟨rfl, hw⟩)
    · exact fun w hw => gw rfl (g_call 15 _ _ [.string ⟨#[107]⟩, .string ⟨#[120]⟩, .int .i64 7] (kf15 _ _) rfl (mono_val hw (by have h := short_any ⟨#[107]⟩ ⟨#[120]⟩ 7 (by decide) (by decide) w (hTx w hw); rw [H7.out] at h; exact h)))
    · exact fun w hw => gw rfl (g_call 17 _ _ [.string ⟨#[107]⟩, .string ⟨#[120]⟩, .string F7] (kf17 _ _) rfl (mono_val hw (by have h := mright_any ⟨#[107]⟩ ⟨#[120]⟩ F7 (by decide) (by decide) S7.out w (hTx w hw); rw [R7.out] at h; exact h)))
    · exact fun w hw => gw rfl (g_val _ w (by go_simp) ⟨rfl, hw⟩)
    · exact fun w hw => gw rfl (g_pick _ _ _ _ rfl rfl ⟨rfl, hw⟩)
    · exact fun w hw => gw rfl (g_move _ _ rfl ⟨rfl, hw⟩)
    · exact fun w hw => gw rfl (g_load_all 23 _ (w1.heap.size) _ 23 _ rfl (c3.below hw c3.lt) Tryd.underlying23 rfl (zk23 K kl) ⟨rfl, hw⟩)
    · exact fun w hw => gw rfl (g_call 13 _ _ [.agg (bc K).toArray, .string ⟨#[110]⟩] (kf13 _ _) rfl (mono_val hw (by have h := of_any K kl ⟨#[110]⟩ (by decide) w (hTx w hw); rw [HO.out] at h; exact h)))
    · exact fun w hw => gw rfl (g_val _ w (by have h := run_slice_all w w1.heap.size 0 32 23 5 Tryd.underlying23 Tryd.sizeOf5; go_simp) ⟨rfl, hw⟩)
    · exact fun w hw => gw rfl (g_val _ w (by have h := blk_all K kl (c3.below hw c3.lt); go_simp) ⟨rfl, hw⟩)
    · exact fun w hw => gw rfl (g_call 11 _ _ [.string ⟨K.toArray⟩, .string ⟨#[110]⟩] (kf11 _ _) rfl (mono_val hw (by have h := tag_any ⟨K.toArray⟩ ⟨#[110]⟩ (HKS.out) (by decide) w (hTx w hw); rw [HO2.out] at h; exact h)))
    · exact fun w hw => gw rfl (g_eql 23 5 _ _ 32 O O rfl rfl guard23 Tryd.underlying23 Tryd.underlying5 Tryd.sizeOf5 Tryd.isAgg5 ol ol ⟨by simp, hw⟩)
    · exact fun w hw => gw rfl (g_pick _ _ _ _ rfl rfl ⟨rfl, hw⟩)
    · exact fun w hw => gw rfl (g_assign _ _ rfl ⟨rfl, hw⟩)
  · simp only [fullL, Act.put, List.setIfInBounds_toArray, List.set_cons_succ, List.set_cons_zero]
    intro w8 hw
    go_wp2_with fail
    go_ret
    exact ⟨rfl, hB5.trans (hw.mono hB5.size)⟩
end Go.Proofs.YtfbajkojjlgbdaaDoor
