/- Single operations that the laws of volley use; numbers. -/
import Derived.Test.YtpenicjlpiechaaDoorAwake
import Derived.Test.YtpenicjlpiechaaDoorArgs
import Derived.Test.YtpenicjlpiechaaDoorVo3
import Derived.WalkKit
import Derived.WalkSpells
import Derived.WalkLawsBesides
namespace Go.Proofs.YtpenicjlpiechaaDoor
set_option maxRecDepth 10000
open Go Go.RowKit
set_option linter.unusedVariables false
set_option linter.unusedSimpArgs false

section
variable {a : Act} {w w0 : World} {R : List HP} {dst : Option Tmp} {ty yt : TypeId} {pos : String} {aft : Array Edge} {gd : Option (Nat × Bool)} {K : Value → World → Prop}
theorem g_sl_b (x p q : Operand) (s r : ByteArray) (l h : Nat) (hx : a.eval x = .string s) (hl : a.eval p = .int .i64 l) (hh : a.eval q = .int .i64 h) (hlh : l ≤ h) (hs : h ≤ s.size) (hr : s.extract l h = r) (hk : K (.string r) w) : gives Tryd.prog ⟨dst, .slice 9 x (some p) (some q) none, ty, pos, aft, gd⟩ a w K := by
  subst hr
  exact g_val _ w (by simp only [execOp, hx, Option.map_some, Option.map_none, hl, hh]; go_simp) hk
theorem g_cv32 (x : Operand) (p r : Int) (hx : a.eval x = .int .u32 p) (hr : IntKind.i64.wrap p = r) (hk : K (.int .i64 r) w) : gives Tryd.prog ⟨dst, .convert 56 2 x, ty, pos, aft, gd⟩ a w K :=
  g_val (.int .i64 r) w (by subst hr; simp only [execOp, hx]; go_simp) hk
theorem g_max2 (x y : Operand) (p q r : Int) (hx : a.eval x = .int .i64 p) (hy : a.eval y = .int .i64 q) (hr : max p q = r) (hk : K (.int .i64 r) w) : gives Tryd.prog ⟨dst, .call { callee := .builtin .max, args := #[x, y], argTypes := #[2, 2] }, ty, pos, aft, gd⟩ a w K :=
  g_val (.int .i64 r) w (by simp only [execOp, resolve, invoke, builtin, List.map_toArray, List.map_cons, List.map_nil, hx, hy]; go_simp; try exact hr) hk
theorem g_min2 (x y : Operand) (p q r : Int) (hx : a.eval x = .int .i64 p) (hy : a.eval y = .int .i64 q) (hr : min p q = r) (hk : K (.int .i64 r) w) : gives Tryd.prog ⟨dst, .call { callee := .builtin .min, args := #[x, y], argTypes := #[2, 2] }, ty, pos, aft, gd⟩ a w K :=
  g_val (.int .i64 r) w (by simp only [execOp, resolve, invoke, builtin, List.map_toArray, List.map_cons, List.map_nil, hx, hy]; go_simp; try exact hr) hk
theorem g_slA (x : Operand) (b : Nat) (hx : a.eval x = .pointer (some ⟨b, 0, none⟩)) (hk : K (.slice (some ⟨b, 0, none⟩) 16 16) w) : gives Tryd.prog ⟨dst, .slice 42 x none none none, ty, pos, aft, gd⟩ a w K :=
  g_val _ w (by have h := run_slice_all w b 0 16 42 5 Tryd.underlying42 Tryd.sizeOf5; simp only [execOp, hx, Option.map_none, Sem.run_bind, h, Result.andThen_ok, Sem.run_pure]) hk
theorem g_strA (x : Operand) (b : Nat) (l : List UInt8) (hl : l.length = 16) (t : TypeId) (hx : a.eval x = .slice (some ⟨b, 0, none⟩) 16 16) (hb : Blk w b (bc l) t) (hk : K (.string ⟨l.toArray⟩) w) : gives Tryd.prog ⟨dst, .convert 48 9 x, ty, pos, aft, gd⟩ a w K :=
  g_val _ w (by have h := blk_string (o := 0) (n := 16) (cap := 16) hb l hl (by rw [List.drop_zero, List.take_of_length_le (by rw [bc_length]; omega)]); simp only [execOp, hx, Sem.run_bind, h, Result.andThen_ok, Sem.run_pure]) hk
theorem guardA : Tryd.prog.eqGuardType Tryd.prog.depth 42 = false := by kernel_rfl
theorem g_eqlA (x y : Operand) (l m : List UInt8) (hl : l.length = 16) (hm : m.length = 16) (b : Bool) (hx : a.eval x = .agg (bc l).toArray) (hy : a.eval y = .agg (bc m).toArray) (hb : decide (l = m) = b) (hk : K (.bool b) w) : gives Tryd.prog ⟨dst, .binOp .eql 42 x y yt, ty, pos, aft, gd⟩ a w K :=
  g_val (.bool b) w (by subst hb; simp only [execOp, hx, hy, Sem.run_bind, run_eqGuard_agg w _ _ _ _ _ _ guardA, run_eql_struct, equalA l m hl hm 9998, Result.andThen_ok, Sem.run_pure]) hk
end
theorem tmod_lt (n m : Int) (h : 0 < m) : -m < n.tmod m ∧ n.tmod m < m := by
  rcases Int.le_total 0 n with h0 | h0
  · rw [Int.tmod_eq_emod_of_nonneg h0]
    have h1 := Int.emod_nonneg n (show m ≠ 0 by omega)
    have h2 := Int.emod_lt_of_pos n h
    omega
  · have e : n.tmod m = -((-n).tmod m) := by rw [Int.neg_tmod, Int.neg_neg]
    rw [e, Int.tmod_eq_emod_of_nonneg (by omega : (0 : Int) ≤ -n)]
    have h1 := Int.emod_nonneg (-n) (show m ≠ 0 by omega)
    have h2 := Int.emod_lt_of_pos (-n) h
    omega
theorem tmod_nn (n m : Int) (h : 0 < m) (h0 : 0 ≤ n) : 0 ≤ n.tmod m ∧ n.tmod m < m := by
  rw [Int.tmod_eq_emod_of_nonneg h0]
  exact ⟨Int.emod_nonneg n (show m ≠ 0 by omega), Int.emod_lt_of_pos n h⟩
theorem ba_ext {s t : ByteArray} (h : s.data.toList = t.data.toList) : s = t := by
  obtain ⟨⟨l⟩⟩ := s
  obtain ⟨⟨m⟩⟩ := t
  have e : l = m := h
  rw [e]
theorem ba_app (s t : ByteArray) : (s ++ t).data.toList = s.data.toList ++ t.data.toList := by rw [ByteArray.data_append, Array.toList_append]
theorem ba_size (s : ByteArray) : s.data.toList.length = s.size := by rw [Array.length_toList]; rfl
theorem ext_l (s : ByteArray) (i j : Nat) : (s.extract i j).data.toList = (s.data.toList.drop i).take (j - i) := by
  rw [ByteArray.data_extract, Array.toList_extract, List.extract_eq_take_drop]
theorem ext_pre (p q : ByteArray) (n : Nat) (h : p.size = n) : (p ++ q).extract 0 n = p := by
  apply ba_ext
  rw [ext_l, ba_app, List.drop_zero, Nat.sub_zero, ← h, ← ba_size, List.take_left]
theorem ext_mid (p q r : ByteArray) (i j : Nat) (h : p.size = i) (h2 : i + q.size = j) : (p ++ q ++ r).extract i j = q := by
  apply ba_ext
  rw [ext_l, ba_app, ba_app, List.append_assoc, ← h, ← ba_size, List.drop_left, ba_size, show j - p.size = q.size by omega, ← ba_size q, List.take_left]
theorem ext_suf (p q : ByteArray) (i : Nat) (h : p.size = i) : (p ++ q).extract i (p ++ q).size = q := by
  apply ba_ext
  rw [ext_l, ba_app, ← h, ← ba_size p, List.drop_left, ← ba_size (p ++ q), ba_app, List.length_append, Nat.add_sub_cancel_left, List.take_length]
end Go.Proofs.YtpenicjlpiechaaDoor
