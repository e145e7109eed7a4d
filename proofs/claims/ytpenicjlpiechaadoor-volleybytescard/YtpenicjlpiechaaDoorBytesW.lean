/- VolleyBytes: the walk. -/
import Derived.Test.YtpenicjlpiechaaDoorVoLw
import Derived.Test.YtpenicjlpiechaaDoorRp
import Derived.WalkKit
import Derived.WalkSpells
import Derived.WalkLawsBesides
namespace Go.Proofs.YtpenicjlpiechaaDoor.volleyBytes
set_option maxRecDepth 10000
open Go Go.RowKit
set_option linter.unusedVariables false
set_option linter.unusedSimpArgs false

set_option maxHeartbeats 8000000 in
theorem walk_1 (k a : ByteArray) (t2 t3 : Int) (w : World) (hT : Tabs w) (h1 : 100 < ((k.size : Nat) : Int)) : Calls Tryd.prog 7 #[.string k, .string a, .int .i64 t2, .int .i64 t3] w fun e w' => e = .returned (.bool true) ∧ Below w.heap.size w w' := by
  have hM := Ms.refl w
  go_enter Tryd.func7, Tryd.ntmps7
  refine wp_seq_k fun _ κ1 => wl_region (wl_fare kn ?_)
  simp (disch := omega) only [fx, pv, kx]
  refine wl_nil (κ1 _ _ ?_)
  refine wp_seq_k fun _ κ2 => wp_seq_k fun _ κ3 => wl_region (wl_give rfl (g_cM hM (kf10 _ _) (awake_any w (hM.tabs hT)) rfl ?_))
  intro w4 hM
  refine wl_fare kn ?_
  simp (disch := omega) only [fx, pv, kx]
  refine wl_nil (κ3 _ _ ?_)
  refine wp_cond_false rfl (wp_skip ?_)
  refine κ2 _ _ (wp_seq_k fun _ κ5 => ?_)
  refine wp_seq_k fun _ κ6 => wl_region (wl_fare kn ?_)
  simp (disch := omega) only [fx, pv, kx]
  refine wl_give rfl (g_lenT _ (k) (((k.size : Nat) : Int)) rfl (rfl) ?_)
  refine wl_fare kn ?_
  simp (config := { maxSteps := 10000000 }) (disch := omega) only [fx, pv, kx]
  refine wl_nil (κ6 _ _ ?_)
  refine wp_cond_true rfl (wp_seq_k fun _ κ7 => ?_)
  refine wl_region (wl_fare kn ?_)
  simp (disch := omega) only [fx, pv, kx]
  refine wl_nil (κ7 _ _ ?_)
  refine wp_ret ?_
  go_ret
  exact ⟨rfl, hM.below⟩
set_option maxHeartbeats 8000000 in
theorem walk_2 (k a : ByteArray) (t2 t3 : Int) (w : World) (hT : Tabs w) (h1 : ¬ 100 < ((k.size : Nat) : Int)) (h2 : 100 < ((a.size : Nat) : Int)) : Calls Tryd.prog 7 #[.string k, .string a, .int .i64 t2, .int .i64 t3] w fun e w' => e = .returned (.bool true) ∧ Below w.heap.size w w' := by
  have hM := Ms.refl w
  go_enter Tryd.func7, Tryd.ntmps7
  refine wp_seq_k fun _ κ1 => wl_region (wl_fare kn ?_)
  simp (disch := omega) only [fx, pv, kx]
  refine wl_nil (κ1 _ _ ?_)
  refine wp_seq_k fun _ κ2 => wp_seq_k fun _ κ3 => wl_region (wl_give rfl (g_cM hM (kf10 _ _) (awake_any w (hM.tabs hT)) rfl ?_))
  intro w4 hM
  refine wl_fare kn ?_
  simp (disch := omega) only [fx, pv, kx]
  refine wl_nil (κ3 _ _ ?_)
  refine wp_cond_false rfl (wp_skip ?_)
  refine κ2 _ _ (wp_seq_k fun _ κ5 => ?_)
  refine wp_seq_k fun _ κ6 => wl_region (wl_fare kn ?_)
  simp (disch := omega) only [fx, pv, kx]
  refine wl_give rfl (g_lenT _ (k) (((k.size : Nat) : Int)) rfl (rfl) ?_)
  refine wl_fare kn ?_
  simp (config := { maxSteps := 10000000 }) (disch := omega) only [fx, pv, kx]
  refine wl_give rfl (g_lenT _ (a) (((a.size : Nat) : Int)) rfl (rfl) ?_)
  refine wl_fare kn ?_
  simp (disch := omega) only [fx, pv, kx]
  refine wl_nil (κ6 _ _ ?_)
  refine wp_cond_true rfl (wp_seq_k fun _ κ7 => ?_)
  refine wl_region (wl_fare kn ?_)
  simp (disch := omega) only [fx, pv, kx]
  refine wl_nil (κ7 _ _ ?_)
  refine wp_ret ?_
  go_ret
  exact ⟨rfl, hM.below⟩
set_option maxHeartbeats 8000000 in
theorem walk_3 (k a : ByteArray) (t2 t3 : Int) (w : World) (hT : Tabs w) (h1 : ¬ 100 < ((k.size : Nat) : Int)) (h2 : ¬ 100 < ((a.size : Nat) : Int)) (h3 : a.size ≠ 24) : Calls Tryd.prog 7 #[.string k, .string a, .int .i64 t2, .int .i64 t3] w fun e w' => e = .returned (.bool true) ∧ Below w.heap.size w w' := by
  have hM := Ms.refl w
  go_enter Tryd.func7, Tryd.ntmps7
  refine wp_seq_k fun _ κ1 => wl_region (wl_fare kn ?_)
  simp (disch := omega) only [fx, pv, kx]
  refine wl_nil (κ1 _ _ ?_)
  refine wp_seq_k fun _ κ2 => wp_seq_k fun _ κ3 => wl_region (wl_give rfl (g_cM hM (kf10 _ _) (awake_any w (hM.tabs hT)) rfl ?_))
  intro w4 hM
  refine wl_fare kn ?_
  simp (disch := omega) only [fx, pv, kx]
  refine wl_nil (κ3 _ _ ?_)
  refine wp_cond_false rfl (wp_skip ?_)
  refine κ2 _ _ (wp_seq_k fun _ κ5 => ?_)
  refine wp_seq_k fun _ κ6 => wl_region (wl_fare kn ?_)
  simp (disch := omega) only [fx, pv, kx]
  refine wl_give rfl (g_lenT _ (k) (((k.size : Nat) : Int)) rfl (rfl) ?_)
  refine wl_fare kn ?_
  simp (config := { maxSteps := 10000000 }) (disch := omega) only [fx, pv, kx]
  refine wl_give rfl (g_lenT _ (a) (((a.size : Nat) : Int)) rfl (rfl) ?_)
  refine wl_fare kn ?_
  simp (disch := omega) only [fx, pv, kx]
  refine wl_nil (κ6 _ _ ?_)
  refine wp_cond_false rfl (wp_skip ?_)
  refine κ5 _ _ (wp_seq_k fun _ κ7 => ?_)
  refine wl_region (wl_fare kn ?_)
  simp (config := { maxSteps := 10000000 }) (disch := omega) only [fx, pv, kx]
  refine wl_give rfl (g_cM hM (kf19 _ _) (answer_n (k) (a) (t2) (t3) w4 h3) rfl fun w8 hM => wl_fare kn ?_)
  simp (config := { maxSteps := 10000000 }) (disch := omega) only [fx, pv, kx]
  refine wl_nil (κ7 _ _ ?_)
  refine wp_seq_k fun _ κ9 => wp_seq_k fun _ κ10 => wl_region (wl_fare kn ?_)
  simp (disch := omega) only [fx, pv, kx]
  refine wl_give rfl (g_lenT _ (a) (((a.size : Nat) : Int)) rfl (rfl) ?_)
  refine wl_fare kn ?_
  simp (disch := omega) only [fx, pv, kx, ((decide_eq_true (fun h => h3 (Int.ofNat.inj h))) : decide ((((a.size : Nat) : Int)) ≠ (24)) = true)]
  refine wl_nil (κ10 _ _ ?_)
  refine wp_cond_true rfl (wp_seq_k fun _ κ11 => ?_)
  refine wl_region (wl_fare kn ?_)
  simp (disch := omega) only [fx, pv, kx]
  refine wl_give rfl (g_ste _ _ (⟨#[]⟩) (⟨#[]⟩) true rfl rfl (decide_eq_true rfl) ?_)
  refine wl_fare kn ?_
  simp (config := { maxSteps := 10000000 }) (disch := omega) only [fx, pv, kx]
  refine wl_nil (κ11 _ _ ?_)
  refine wp_ret ?_
  go_ret
  exact ⟨rfl, hM.below⟩
set_option maxHeartbeats 8000000 in
theorem walk_4 (k a : ByteArray) (t2 t3 : Int) (w : World) (hT : Tabs w) (h1 : ¬ 100 < ((k.size : Nat) : Int)) (h3 : a.size = 24) (y : ByteArray) (hv : anw k a t2 t3 = y) (hy : y.size = 56) (e24 : y.extract 0 24 = a) (e40 : y.extract 24 40 = mb t2 ++ mb t3) : Calls Tryd.prog 7 #[.string k, .string a, .int .i64 t2, .int .i64 t3] w fun e w' => e = .returned (.bool true) ∧ Below w.heap.size w w' := by
  have hM := Ms.refl w
  go_enter Tryd.func7, Tryd.ntmps7
  refine wp_seq_k fun _ κ1 => wl_region (wl_fare kn ?_)
  simp (disch := omega) only [fx, pv, kx]
  refine wl_nil (κ1 _ _ ?_)
  refine wp_seq_k fun _ κ2 => wp_seq_k fun _ κ3 => wl_region (wl_give rfl (g_cM hM (kf10 _ _) (awake_any w (hM.tabs hT)) rfl ?_))
  intro w4 hM
  refine wl_fare kn ?_
  simp (disch := omega) only [fx, pv, kx]
  refine wl_nil (κ3 _ _ ?_)
  refine wp_cond_false rfl (wp_skip ?_)
  refine κ2 _ _ (wp_seq_k fun _ κ5 => ?_)
  refine wp_seq_k fun _ κ6 => wl_region (wl_fare kn ?_)
  simp (disch := omega) only [fx, pv, kx]
  refine wl_give rfl (g_lenT _ (k) (((k.size : Nat) : Int)) rfl (rfl) ?_)
  refine wl_fare kn ?_
  simp (config := { maxSteps := 10000000 }) (disch := omega) only [fx, pv, kx]
  refine wl_give rfl (g_lenT _ (a) (24) rfl (by rw [h3]; rfl) ?_)
  refine wl_fare kn ?_
  simp (disch := omega) only [fx, pv, kx]
  refine wl_nil (κ6 _ _ ?_)
  refine wp_cond_false rfl (wp_skip ?_)
  refine κ5 _ _ (wp_seq_k fun _ κ7 => ?_)
  refine wl_region (wl_fare kn ?_)
  simp (config := { maxSteps := 10000000 }) (disch := omega) only [fx, pv, kx]
  refine wl_give rfl (g_cM hM (kf19 _ _) (answer_e (k) (a) (t2) (t3) w4 (hM.tabs hT) (by omega) h3 y hv) rfl fun w8 hM => wl_fare kn ?_)
  simp (config := { maxSteps := 10000000 }) (disch := omega) only [fx, pv, kx]
  refine wl_nil (κ7 _ _ ?_)
  refine wp_seq_k fun _ κ9 => wp_seq_k fun _ κ10 => wl_region (wl_fare kn ?_)
  simp (disch := omega) only [fx, pv, kx]
  refine wl_give rfl (g_lenT _ (a) (24) rfl (by rw [h3]; rfl) ?_)
  refine wl_fare kn ?_
  simp (disch := omega) only [fx, pv, kx]
  refine wl_nil (κ10 _ _ ?_)
  refine wp_cond_false rfl (wp_skip ?_)
  refine κ9 _ _ (wp_seq_k fun _ κ11 => ?_)
  refine wp_region_fixed (by kernel_rfl) (by kernel_rfl) [.int .i64 (0), .bool true, .bool true, .string (y), .int .i64 (56), .bool true, .bool true, .bool true, .string (y), .string ((y).extract 0 24), .string (a), .bool true, .bool true, .bool true, .string (y), .string (mb t2 ++ mb t3), .int .i64 (t2), .int .u64 ((((t2 % 18446744073709551616).toNat : Nat) : Int)), .string (mb t2), .int .i64 (t3), .int .u64 ((((t3 % 18446744073709551616).toNat : Nat) : Int)), .string (mb t3), .string (mb t2 ++ mb t3), .bool true, .bool true, .bool true] (by rfl) (fun wx => Ms w wx []) hM.drew ?_ ?_
  · simp only [fullL, Act.put, st_a, st_s, st_0]
    refine ⟨?_, ?_, ?_, ?_, ?_, ?_, ?_, ?_, ?_, ?_, ?_, ?_, ?_, ?_, ?_, ?_, ?_, ?_, ?_, ?_, ?_, ?_, ?_, ?_, ?_, ?_, trivial⟩
    · exact mvL rfl rfl
    · exact fun wx hM => gw rfl (g_ieq 25 _ _ .i64 (0) (0) true rfl rfl (by decide) ⟨rfl, hM⟩)
    · exact mvL rfl rfl
    · exact mvL rfl rfl
    · exact fun wx hM => gw rfl (g_lenT _ (y) (56) rfl (by rw [hy]; rfl) ⟨rfl, hM⟩)
    · exact fun wx hM => gw rfl (g_ieq 3 _ _ .i64 (56) (56) true rfl rfl (by decide) ⟨rfl, hM⟩)
    · exact ptL rfl rfl rfl
    · exact mvL rfl rfl
    · exact mvL rfl rfl
    · exact fun wx hM => gw rfl (g_sl_h _ _ (y) ((y).extract 0 24) 24 rfl rfl (by rw [hy]; decide) rfl ⟨rfl, hM⟩)
    · exact mvL rfl rfl
    · exact fun wx hM => gw rfl (g_steq 9 _ _ ((y).extract 0 24) (a) true rfl rfl (decide_eq_true e24) ⟨rfl, hM⟩)
    · exact ptL rfl rfl rfl
    · exact mvL rfl rfl
    · exact mvL rfl rfl
    · exact fun wx hM => gw rfl (g_sl_b _ _ _ (y) (mb t2 ++ mb t3) 24 40 rfl rfl rfl (by decide) (by rw [hy]; decide) e40 ⟨rfl, hM⟩)
    · exact mvL rfl rfl
    · exact fun wx hM => gw rfl (g_cv2U _ (t2) (((t2 % 18446744073709551616).toNat : Nat) : Int) rfl (by omega) ⟨rfl, hM⟩)
    · exact fun wx hM => gw rfl (g_call 21 _ _ [.int .u64 ((((t2 % 18446744073709551616).toNat : Nat) : Int)), .int .i64 (8)] (kf21 _ _) rfl ((rput_any (t2 % 18446744073709551616).toNat 8 8 wx (.inr (.inl ⟨by decide, by decide, rfl⟩)) (by omega)).mono (fun _ _ ⟨h1_, h2_⟩ => ⟨_, h1_, rfl, hM.call h2_⟩)))
    · exact mvL rfl rfl
    · exact fun wx hM => gw rfl (g_cv2U _ (t3) (((t3 % 18446744073709551616).toNat : Nat) : Int) rfl (by omega) ⟨rfl, hM⟩)
    · exact fun wx hM => gw rfl (g_call 21 _ _ [.int .u64 ((((t3 % 18446744073709551616).toNat : Nat) : Int)), .int .i64 (8)] (kf21 _ _) rfl ((rput_any (t3 % 18446744073709551616).toNat 8 8 wx (.inr (.inl ⟨by decide, by decide, rfl⟩)) (by omega)).mono (fun _ _ ⟨h1_, h2_⟩ => ⟨_, h1_, rfl, hM.call h2_⟩)))
    · exact fun wx hM => gw rfl (g_sadd 9 _ _ (mb t2) (mb t3) (mb t2 ++ mb t3) rfl rfl rfl (by rw [mb_size, mb_size]; decide) ⟨rfl, hM⟩)
    · exact fun wx hM => gw rfl (g_ste _ _ (mb t2 ++ mb t3) (mb t2 ++ mb t3) true rfl rfl (decide_eq_true rfl) ⟨rfl, hM⟩)
    · exact ptL rfl rfl rfl
    · exact asL rfl rfl
  · simp only [fullL, Act.put, st_a, st_s, st_0]
    intro w12 hM
    refine κ11 _ _ (wp_ret ?_)
    go_ret
    exact ⟨rfl, hM.below⟩
theorem ba_assoc3 (a b c : ByteArray) : a ++ b ++ c = a ++ (b ++ c) := ba_ext (by simp only [ba_app, List.append_assoc])
theorem ba_assoc4 (a b c d : ByteArray) : a ++ b ++ c ++ d = a ++ (b ++ c ++ d) := ba_ext (by simp only [ba_app, List.append_assoc])
theorem walk (k a : ByteArray) (t2 t3 : Int) (w : World) (hT : Tabs w) (b2 : -9223372036854775808 ≤ t2 ∧ t2 < 9223372036854775808) (b3 : -9223372036854775808 ≤ t3 ∧ t3 < 9223372036854775808) : Calls Tryd.prog 7 #[.string k, .string a, .int .i64 t2, .int .i64 t3] w fun e w' => e = .returned (.bool true) ∧ Below w.heap.size w w' := by
  by_cases h1 : 100 < ((k.size : Nat) : Int)
  · exact walk_1 k a t2 t3 w hT h1
  by_cases h2 : 100 < ((a.size : Nat) : Int)
  · exact walk_2 k a t2 t3 w hT h1 h2
  by_cases h3 : a.size = 24
  · refine walk_4 k a t2 t3 w hT h1 h3 _ rfl (anw_size h3) ?_ ?_
    · unfold anw tld
      rw [ba_assoc4]
      exact ext_pre a _ 24 h3
    · unfold anw tld
      rw [ba_assoc3 a]
      exact ext_mid a (mb t2 ++ mb t3) _ 24 40 h3 (by rw [ByteArray.size_append, mb_size, mb_size])
  · exact walk_3 k a t2 t3 w hT h1 h2 h3
end Go.Proofs.YtpenicjlpiechaaDoor.volleyBytes
