/- What single operations yield: numbers of another kind, a field's address. What the program's fieldBytes answers. -/
import Derived.Test.YteieacamokoejaaHd3
namespace Go.Proofs.Yteieacamokoejaa
open Go Go.RowKit
set_option linter.unusedVariables false

section
variable {P : Program} {ops : Array Oper} {rest : List Oper} {a : Act} {w : World} {Q : Exit → Act → World → Prop} {dst : Option Tmp} {ty yt : TypeId} {pos : String} {aft : Array Edge} {gd : Option (Nat × Bool)} {K : Value → World → Prop}
theorem g_fF (x : Operand) (b k : Nat) (i : Nat) (hx : a.eval x = .pointer (some ⟨b, 0, none⟩)) (hi : (Instr.fieldAt 48 (.pointer (some ⟨b, 0, none⟩)) i).run Try.prog w = .ok (.pointer (some ⟨b, k, none⟩)) w) (hk : K (.pointer (some ⟨b, k, none⟩)) w) : gives Try.prog ⟨dst, .fieldAddr 48 x i, ty, pos, aft, gd⟩ a w K :=
  g_val _ w (by simp only [execOp, hx, Sem.run_bind, hi, Result.andThen_ok, Sem.run_pure]) hk
theorem g_cv_3_23 (x : Operand) (p r : Int) (hx : a.eval x = .int .i64 p) (hr : IntKind.u64.wrap p = r) (hk : K (.int .u64 r) w) : gives Try.prog ⟨dst, .convert 3 23 x, ty, pos, aft, gd⟩ a w K :=
  g_val (.int .u64 r) w (by simp only [execOp, hx]; go_simp) hk
theorem g_cv_22_23 (x : Operand) (p r : Int) (hx : a.eval x = .int .u32 p) (hr : IntKind.u64.wrap p = r) (hk : K (.int .u64 r) w) : gives Try.prog ⟨dst, .convert 22 23 x, ty, pos, aft, gd⟩ a w K :=
  g_val (.int .u64 r) w (by simp only [execOp, hx]; go_simp) hk
theorem g_cv_23_22 (x : Operand) (p r : Int) (hx : a.eval x = .int .u64 p) (hr : IntKind.u32.wrap p = r) (hk : K (.int .u32 r) w) : gives Try.prog ⟨dst, .convert 23 22 x, ty, pos, aft, gd⟩ a w K :=
  g_val (.int .u32 r) w (by simp only [execOp, hx]; go_simp) hk
theorem g_cv_23_3 (x : Operand) (p r : Int) (hx : a.eval x = .int .u64 p) (hr : IntKind.i64.wrap p = r) (hk : K (.int .i64 r) w) : gives Try.prog ⟨dst, .convert 23 3 x, ty, pos, aft, gd⟩ a w K :=
  g_val (.int .i64 r) w (by simp only [execOp, hx]; go_simp) hk
theorem g_cv_5_3 (x : Operand) (p r : Int) (hx : a.eval x = .int .u8 p) (hr : IntKind.i64.wrap p = r) (hk : K (.int .i64 r) w) : gives Try.prog ⟨dst, .convert 5 3 x, ty, pos, aft, gd⟩ a w K :=
  g_val (.int .i64 r) w (by simp only [execOp, hx]; go_simp) hk
theorem g_cv_5_71 (x : Operand) (p r : Int) (hx : a.eval x = .int .u8 p) (hr : IntKind.i8.wrap p = r) (hk : K (.int .i8 r) w) : gives Try.prog ⟨dst, .convert 5 71 x, ty, pos, aft, gd⟩ a w K :=
  g_val (.int .i8 r) w (by simp only [execOp, hx]; go_simp) hk
theorem g_cv_71_3 (x : Operand) (p r : Int) (hx : a.eval x = .int .i8 p) (hr : IntKind.i64.wrap p = r) (hk : K (.int .i64 r) w) : gives Try.prog ⟨dst, .convert 71 3 x, ty, pos, aft, gd⟩ a w K :=
  g_val (.int .i64 r) w (by simp only [execOp, hx]; go_simp) hk
theorem g_cv_43_3 (x : Operand) (p r : Int) (hx : a.eval x = .int .u16 p) (hr : IntKind.i64.wrap p = r) (hk : K (.int .i64 r) w) : gives Try.prog ⟨dst, .convert 43 3 x, ty, pos, aft, gd⟩ a w K :=
  g_val (.int .i64 r) w (by simp only [execOp, hx]; go_simp) hk
theorem g_cv_3_5 (x : Operand) (p r : Int) (hx : a.eval x = .int .i64 p) (hr : IntKind.u8.wrap p = r) (hk : K (.int .u8 r) w) : gives Try.prog ⟨dst, .convert 3 5 x, ty, pos, aft, gd⟩ a w K :=
  g_val (.int .u8 r) w (by simp only [execOp, hx]; go_simp) hk
end
theorem pad4_any (S R : ByteArray) (w : World) (hs : S.size ≤ 1099511627776) (hR : Hid ((⟨(pad4 S.data.toList).toArray⟩ : ByteArray) = R)) : Calls Try.prog 42 #[.string S, .int .i64 4] w fun e w' => e = .returned (.string R) ∧ Below w.heap.size w w' := by
  have hl := Lib.size_eq S
  rw [← hR.out, pad4, ← hl]
  by_cases h : S.size % 4 = 0
  · refine (pad_full S 4 w (by omega) hs h).mono ?_
    rintro e w' ⟨rfl, rfl⟩
    rw [h]
    exact ⟨ret_string (by apply ByteArray.ext; apply Array.toList_inj.1; simp), Below.refl _ _⟩
  · have h2 : S.size % 4 < 4 := Nat.mod_lt _ (by decide)
    have h3 := pad_more S 4 (S.size % 4) (4 - S.size % 4) w rfl (by omega) (by omega) (by omega) (by omega) hs
    rw [show (4 - S.size % 4) % 4 = 4 - S.size % 4 by omega]
    exact h3
theorem wrap_i64 (n : Int) (h0 : -9223372036854775808 ≤ n) (h1 : n < 9223372036854775808) : IntKind.i64.wrap n = n := by
  simp [IntKind.wrap, IntKind.bits, IntKind.signed]; omega
theorem size_toArray (l : List UInt8) : (⟨l.toArray⟩ : ByteArray).size = l.length := by rw [Lib.size_eq]
theorem put_l (n c : Nat) (S : ByteArray) (w : World) (hc : c ≤ 8) (hS : Hid ((⟨(putL n c).toArray⟩ : ByteArray) = S)) : Calls Try.prog 26 #[.int .u64 n, .int .i64 c] w fun e w' => e = .returned (.string S) ∧ Below w.heap.size w w' := by
  rw [← hS.out]; exact put_mid n c w hc
set_option maxRecDepth 10000 in
set_option maxHeartbeats 4000000 in
theorem fbytes_w (f : Int × ByteArray) (n m : Nat) (A B C D R : ByteArray) (w : World) (hd : f.2.size ≤ 1000) (e1 : Hid (IntKind.i64.wrap (4 + (f.2.size : Int)) = (m : Int))) (e2 : Hid (IntKind.u64.wrap f.1 = (n : Int))) (e3 : Hid (IntKind.u64.wrap (m : Int) = (m : Int))) (e6 : Hid ((⟨(putL n 2).toArray⟩ : ByteArray) = A)) (e7 : Hid ((⟨(putL m 2).toArray⟩ : ByteArray) = B)) (e4 : Hid (A ++ B = C)) (e5 : Hid (C ++ f.2 = D)) (hA : A.size = 2) (hB' : B.size = 2) (hC : C.size = 4) (hD : D.size ≤ 1004) (hR : Hid ((⟨(pad4 D.data.toList).toArray⟩ : ByteArray) = R)) : Calls Try.prog 37 #[.agg (fc f).toArray] w fun e w' => e = .returned (.string R) ∧ Below w.heap.size w w' := by
  go_enter Try.func37, Try.ntmps37
  go_wp2_with (first
    | ((with_reducible refine at_boxD 1 48 ?_); refine L_box 48 _ (fc (f)) rfl ?_; intro w1 t_ b_f; have l_hB_f : w.heap.size ≤ w.heap.size := Nat.le_refl _; have hB : Below w.heap.size w w1 := t_.below (Below.refl _ _) (Nat.le_refl _); clear t_)
    | ((with_reducible refine at_loadD 6 9 ?_); refine L_give (by rfl) (g_cell9 _ (w.heap.size) 1 _ rfl ((b_f).cell 1 _ rfl) ?_))
    | ((with_reducible refine at_callD 7 ?_); refine L_give (by rfl) (g_slen _ _ _ rfl rfl ?_))
    | ((with_reducible refine at_binD 8 ?_); refine L_give (by rfl) (g_iadd 3 _ _ .i64 _ _ (m : Int) rfl rfl e1.out ?_))
    | ((with_reducible refine at_loadD 10 3 ?_); refine L_give (by rfl) (g_cell3 _ (w.heap.size) 0 _ rfl ((b_f).cell 0 _ rfl) ?_))
    | ((with_reducible refine at_cnv 11 ?_); refine L_give (by rfl) (g_cv_3_23 _ _ (n : Int) rfl e2.out ?_))
    | ((with_reducible refine at_callD 12 ?_); refine L_give (by rfl) (g_call 26 _ _ [.int .u64 (n), .int .i64 (2)] (kf26 _ _) rfl ((put_l n 2 A w1 (by omega) e6).mono ?_)); rintro e w2 ⟨rfl, t_⟩; refine ⟨_, rfl, ?_⟩; replace b_f := b_f.below t_ b_f.lt; replace hB := hB.trans (t_.mono hB.size); clear t_)
    | ((with_reducible refine at_cnv 14 ?_); refine L_give (by rfl) (g_cv_3_23 _ _ (m : Int) rfl e3.out ?_))
    | ((with_reducible refine at_callD 15 ?_); refine L_give (by rfl) (g_call 26 _ _ [.int .u64 (m), .int .i64 (2)] (kf26 _ _) rfl ((put_l m 2 B w2 (by omega) e7).mono ?_)); rintro e w3 ⟨rfl, t_⟩; refine ⟨_, rfl, ?_⟩; replace b_f := b_f.below t_ b_f.lt; replace hB := hB.trans (t_.mono hB.size); clear t_)
    | ((with_reducible refine at_binD 16 ?_); refine L_give (by rfl) (g_sadd 9 _ _ A B C rfl rfl e4.out (by omega) ?_))
    | ((with_reducible refine at_loadD 19 9 ?_); refine L_give (by rfl) (g_cell9 _ (w.heap.size) 1 _ rfl ((b_f).cell 1 _ rfl) ?_))
    | ((with_reducible refine at_binD 20 ?_); refine L_give (by rfl) (g_sadd 9 _ _ C f.2 D rfl rfl e5.out (by omega) ?_))
    | ((with_reducible refine at_callD 21 ?_); refine L_give (by rfl) (g_call 42 _ _ [.string (D), .int .i64 (4)] (kf42 _ _) rfl ((pad4_any D R w3 (by omega) hR).mono ?_)); rintro e w4 ⟨rfl, t_⟩; refine ⟨_, rfl, ?_⟩; replace b_f := b_f.below t_ b_f.lt; replace hB := hB.trans (t_.mono hB.size); clear t_))
  go_ret
  exact ⟨rfl, hB⟩
theorem fbytes_any (f : Int × ByteArray) (R : ByteArray) (w : World) (hf : FMays f) (hR : Hid ((⟨(fb f).toArray⟩ : ByteArray) = R)) : Calls Try.prog 37 #[.agg (fc f).toArray] w fun e w' => e = .returned (.string R) ∧ Below w.heap.size w w' := by
  obtain ⟨⟨h1, h2⟩, h3⟩ := hf
  have hn : (f.1.toNat : Int) = f.1 := by omega
  have hl := Lib.size_eq f.2
  have hAB : (⟨(putL f.1.toNat 2).toArray⟩ : ByteArray) ++ ⟨(putL (4 + f.2.size) 2).toArray⟩ = ⟨(putL f.1.toNat 2 ++ putL (4 + f.2.size) 2).toArray⟩ := by
    apply ByteArray.ext; rw [ByteArray.data_append]; apply Array.toList_inj.1; simp
  have hD : (⟨(putL f.1.toNat 2 ++ putL (4 + f.2.size) 2).toArray⟩ : ByteArray) ++ f.2 = ⟨(putL f.1.toNat 2 ++ (putL (4 + f.2.size) 2 ++ f.2.data.toList)).toArray⟩ := by
    apply ByteArray.ext; rw [ByteArray.data_append]; apply Array.toList_inj.1; simp
  refine fbytes_w f f.1.toNat (4 + f.2.size) _ _ _ _ R w h3 ?_ ?_ ?_ rfl rfl hAB hD ?_ ?_ ?_ ?_ hR
  · show _ = _; rw [wrap_i64 _ (by omega) (by omega)]; omega
  · show _ = _; rw [wraps_u64 _ (by omega) (by omega)]; omega
  · show _ = _; rw [wraps_u64 _ (by omega) (by omega)]
  · rw [size_toArray, putL_length]
  · rw [size_toArray, putL_length]
  · rw [size_toArray, List.length_append, putL_length, putL_length]
  · rw [size_toArray, List.length_append, List.length_append, putL_length, putL_length]; omega
end Go.Proofs.Yteieacamokoejaa
