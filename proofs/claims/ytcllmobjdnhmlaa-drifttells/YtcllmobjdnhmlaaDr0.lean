/- A clock (the program's and the reference's: three numbers) in a walk: what single operations yield on it. -/
import Derived.Test.YtcllmobjdnhmlaaSt2
import Derived.Test.YtcllmobjdnhmlaaStG
namespace Go.Proofs.Ytcllmobjdnhmlaa
open Go Go.RowKit
set_option linter.unusedVariables false
/-- A clock as the program's structure. -/
def cl (f s r : Int) : List Value := [.int .i64 f, .int .i64 s, .int .i64 r]
theorem one_cl (f s r : Int) : ∀ v ∈ cl f s r, v.oneCell' = true := by
  intro v hv
  simp only [cl, List.mem_cons, List.not_mem_nil, or_false] at hv
  rcases hv with rfl | rfl | rfl <;> rfl

theorem szC (f s r : Int) : (Try.prog.info? 23).map (·.size) = some (cl f s r).length := by
  have h : (Try.prog.info? 23).map (·.size) = some 3 := by kernel_rfl
  exact h
theorem zeroC : ∀ w, (zeroValue 23).run Try.prog w = .ok (.agg (cl 0 0 0).toArray) w := by
  intro w; kernel_rfl
theorem guardC : Try.prog.eqGuardType Try.prog.depth 23 = false := by kernel_rfl
theorem fieldsC : Try.prog.underlying 23 = some (.struct (Try.prog.fieldsOf 23)) := by kernel_rfl
theorem heldC : Try.prog.stoodInHeld 23 = false := by kernel_rfl
theorem flC : (Try.prog.fieldsOf 23).toList = [{ name := "From", type := 2, offset := 0, embedded := false, tag := "", pkgPath := "", byteOffset := 0 }, { name := "Shows", type := 2, offset := 1, embedded := false, tag := "", pkgPath := "", byteOffset := 8 }, { name := "Rate", type := 2, offset := 2, embedded := false, tag := "", pkgPath := "", byteOffset := 16 }] := by kernel_rfl
theorem equalC (f s r f' s' r' : Int) (w : World) : (Op.equalIn 10000 23 (.agg (cl f s r).toArray) (.agg (cl f' s' r').toArray)).run Try.prog w = .ok ((f == f') && ((s == s') && (r == r'))) w := by
  rw [run_equalIn_agg w 9999 23 _ _ fieldsC heldC, flC]
  have p0 : ∀ f s r : Int, (part 2 (cl f s r).toArray 0).run Try.prog w = .ok (.int .i64 f) w := by intro f s r; simp [part, cl]
  have p1 : ∀ f s r : Int, (part 2 (cl f s r).toArray 1).run Try.prog w = .ok (.int .i64 s) w := by intro f s r; simp [part, cl]
  have p2 : ∀ f s r : Int, (part 2 (cl f s r).toArray 2).run Try.prog w = .ok (.int .i64 r) w := by intro f s r; simp [part, cl]
  have e2 := fun x y => run_equalIn_int w 9998 2 .i64 .i64 x y Try.underlying2
  simp only [Op.eqFields, ne_eq, not_false_eq_true, if_true, Sem.run_bind, p0, p1, p2, Result.andThen_ok, e2, String.reduceEq, Sem.run_ite, Sem.run_pure]
  cases (f == f') <;> cases (s == s') <;> cases (r == r') <;> simp
theorem eqlC (f s r f' s' r' : Int) (w : World) : (binOp .eql 23 (.agg (cl f s r).toArray) (.agg (cl f' s' r').toArray)).run Try.prog w = .ok (.bool (decide (f = f' ∧ s = s' ∧ r = r'))) w := by
  have h : decide (f = f' ∧ s = s' ∧ r = r') = ((f == f') && ((s == s') && (r == r'))) := by simp only [Bool.decide_and]; rfl
  rw [run_eql_struct, equalC, h]; rfl

theorem szK (f s r : Int) : (Try.prog.info? 25).map (·.size) = some (cl f s r).length := by
  have h : (Try.prog.info? 25).map (·.size) = some 3 := by kernel_rfl
  exact h
theorem zeroK : ∀ w, (zeroValue 25).run Try.prog w = .ok (.agg (cl 0 0 0).toArray) w := by
  intro w; kernel_rfl
theorem guardK : Try.prog.eqGuardType Try.prog.depth 25 = false := by kernel_rfl
theorem fieldsK : Try.prog.underlying 25 = some (.struct (Try.prog.fieldsOf 25)) := by kernel_rfl
theorem heldK : Try.prog.stoodInHeld 25 = false := by kernel_rfl
theorem flK : (Try.prog.fieldsOf 25).toList = [{ name := "From", type := 2, offset := 0, embedded := false, tag := "", pkgPath := "", byteOffset := 0 }, { name := "Shows", type := 2, offset := 1, embedded := false, tag := "", pkgPath := "", byteOffset := 8 }, { name := "Rate", type := 2, offset := 2, embedded := false, tag := "", pkgPath := "", byteOffset := 16 }] := by kernel_rfl
theorem equalK (f s r f' s' r' : Int) (w : World) : (Op.equalIn 10000 25 (.agg (cl f s r).toArray) (.agg (cl f' s' r').toArray)).run Try.prog w = .ok ((f == f') && ((s == s') && (r == r'))) w := by
  rw [run_equalIn_agg w 9999 25 _ _ fieldsK heldK, flK]
  have p0 : ∀ f s r : Int, (part 2 (cl f s r).toArray 0).run Try.prog w = .ok (.int .i64 f) w := by intro f s r; simp [part, cl]
  have p1 : ∀ f s r : Int, (part 2 (cl f s r).toArray 1).run Try.prog w = .ok (.int .i64 s) w := by intro f s r; simp [part, cl]
  have p2 : ∀ f s r : Int, (part 2 (cl f s r).toArray 2).run Try.prog w = .ok (.int .i64 r) w := by intro f s r; simp [part, cl]
  have e2 := fun x y => run_equalIn_int w 9998 2 .i64 .i64 x y Try.underlying2
  simp only [Op.eqFields, ne_eq, not_false_eq_true, if_true, Sem.run_bind, p0, p1, p2, Result.andThen_ok, e2, String.reduceEq, Sem.run_ite, Sem.run_pure]
  cases (f == f') <;> cases (s == s') <;> cases (r == r') <;> simp
theorem eqlK (f s r f' s' r' : Int) (w : World) : (binOp .eql 25 (.agg (cl f s r).toArray) (.agg (cl f' s' r').toArray)).run Try.prog w = .ok (.bool (decide (f = f' ∧ s = s' ∧ r = r'))) w := by
  have h : decide (f = f' ∧ s = s' ∧ r = r') = ((f == f') && ((s == s') && (r == r'))) := by simp only [Bool.decide_and]; rfl
  rw [run_eql_struct, equalK, h]; rfl

section
variable {P : Program} {ops : Array Oper} {rest : List Oper} {a : Act} {w : World} {Q : Exit → Act → World → Prop} {dst : Option Tmp} {ty yt : TypeId} {pos : String} {aft : Array Edge} {gd : Option (Nat × Bool)} {K : Value → World → Prop}
theorem at_bld {t : TypeId} {ps : Array (Nat × Operand)} (d : Tmp) (h : wpList P ops Q (⟨some d, .build t ps, ty, pos, aft, gd⟩ :: rest) a w) : wpList P ops Q (⟨some d, .build t ps, ty, pos, aft, gd⟩ :: rest) a w := h
theorem at_cnv {t t' : TypeId} {x : Operand} (d : Tmp) (h : wpList P ops Q (⟨some d, .convert t t' x, ty, pos, aft, gd⟩ :: rest) a w) : wpList P ops Q (⟨some d, .convert t t' x, ty, pos, aft, gd⟩ :: rest) a w := h
theorem g_eqlC (x y : Operand) (f s r f' s' r' : Int) (b : Bool) (hx : a.eval x = .agg (cl f s r).toArray) (hy : a.eval y = .agg (cl f' s' r').toArray) (hb : decide (f = f' ∧ s = s' ∧ r = r') = b) (hk : K (.bool b) w) : gives Try.prog ⟨dst, .binOp .eql 23 x y yt, ty, pos, aft, gd⟩ a w K :=
  g_val (.bool b) w (by subst hb; simp [execOp, hx, hy, eqGuard, eqlC]) hk
theorem g_bldC0 (hk : K (.agg (cl 0 0 0).toArray) w) : gives Try.prog ⟨dst, .build 23 #[], ty, pos, aft, gd⟩ a w K :=
  g_val (.agg (cl 0 0 0).toArray) w (by simp only [execOp]; go_simp; rfl) hk
theorem g_bldC (x y z : Operand) (f s r : Int) (hx : a.eval x = .int .i64 f) (hy : a.eval y = .int .i64 s) (hz : a.eval z = .int .i64 r) (hk : K (.agg (cl f s r).toArray) w) : gives Try.prog ⟨dst, .build 23 #[(0, x), (1, y), (2, z)], ty, pos, aft, gd⟩ a w K :=
  g_val (.agg (cl f s r).toArray) w (by simp only [execOp, hx, hy, hz, List.map_toArray, List.map_cons, List.map_nil]; go_simp; rfl) hk
theorem g_fC0 (x : Operand) (b : Nat) (hx : a.eval x = .pointer (some ⟨b, 0, none⟩)) (hk : K (.pointer (some ⟨b, 0, none⟩)) w) : gives Try.prog ⟨dst, .fieldAddr 23 x 0, ty, pos, aft, gd⟩ a w K :=
  g_val _ w (by simp only [execOp, hx]; go_simp) hk
theorem g_fC1 (x : Operand) (b : Nat) (hx : a.eval x = .pointer (some ⟨b, 0, none⟩)) (hk : K (.pointer (some ⟨b, 1, none⟩)) w) : gives Try.prog ⟨dst, .fieldAddr 23 x 1, ty, pos, aft, gd⟩ a w K :=
  g_val _ w (by simp only [execOp, hx]; go_simp) hk
theorem g_fC2 (x : Operand) (b : Nat) (hx : a.eval x = .pointer (some ⟨b, 0, none⟩)) (hk : K (.pointer (some ⟨b, 2, none⟩)) w) : gives Try.prog ⟨dst, .fieldAddr 23 x 2, ty, pos, aft, gd⟩ a w K :=
  g_val _ w (by simp only [execOp, hx]; go_simp) hk
theorem g_eqlK (x y : Operand) (f s r f' s' r' : Int) (b : Bool) (hx : a.eval x = .agg (cl f s r).toArray) (hy : a.eval y = .agg (cl f' s' r').toArray) (hb : decide (f = f' ∧ s = s' ∧ r = r') = b) (hk : K (.bool b) w) : gives Try.prog ⟨dst, .binOp .eql 25 x y yt, ty, pos, aft, gd⟩ a w K :=
  g_val (.bool b) w (by subst hb; simp [execOp, hx, hy, eqGuard, eqlK]) hk
theorem g_bldK0 (hk : K (.agg (cl 0 0 0).toArray) w) : gives Try.prog ⟨dst, .build 25 #[], ty, pos, aft, gd⟩ a w K :=
  g_val (.agg (cl 0 0 0).toArray) w (by simp only [execOp]; go_simp; rfl) hk
theorem g_bldK (x y z : Operand) (f s r : Int) (hx : a.eval x = .int .i64 f) (hy : a.eval y = .int .i64 s) (hz : a.eval z = .int .i64 r) (hk : K (.agg (cl f s r).toArray) w) : gives Try.prog ⟨dst, .build 25 #[(0, x), (1, y), (2, z)], ty, pos, aft, gd⟩ a w K :=
  g_val (.agg (cl f s r).toArray) w (by simp only [execOp, hx, hy, hz, List.map_toArray, List.map_cons, List.map_nil]; go_simp; rfl) hk
theorem g_fK0 (x : Operand) (b : Nat) (hx : a.eval x = .pointer (some ⟨b, 0, none⟩)) (hk : K (.pointer (some ⟨b, 0, none⟩)) w) : gives Try.prog ⟨dst, .fieldAddr 25 x 0, ty, pos, aft, gd⟩ a w K :=
  g_val _ w (by simp only [execOp, hx]; go_simp) hk
theorem g_fK1 (x : Operand) (b : Nat) (hx : a.eval x = .pointer (some ⟨b, 0, none⟩)) (hk : K (.pointer (some ⟨b, 1, none⟩)) w) : gives Try.prog ⟨dst, .fieldAddr 25 x 1, ty, pos, aft, gd⟩ a w K :=
  g_val _ w (by simp only [execOp, hx]; go_simp) hk
theorem g_fK2 (x : Operand) (b : Nat) (hx : a.eval x = .pointer (some ⟨b, 0, none⟩)) (hk : K (.pointer (some ⟨b, 2, none⟩)) w) : gives Try.prog ⟨dst, .fieldAddr 25 x 2, ty, pos, aft, gd⟩ a w K :=
  g_val _ w (by simp only [execOp, hx]; go_simp) hk
end
theorem kf10 (vs : Array Value) (w : World) : (callFunc 10 vs).run Try.prog w = .ok (.enter 10 vs) w := by go_simp
theorem kf11 (vs : Array Value) (w : World) : (callFunc 11 vs).run Try.prog w = .ok (.enter 11 vs) w := by go_simp
theorem kf12 (vs : Array Value) (w : World) : (callFunc 12 vs).run Try.prog w = .ok (.enter 12 vs) w := by go_simp
theorem kf13 (vs : Array Value) (w : World) : (callFunc 13 vs).run Try.prog w = .ok (.enter 13 vs) w := by go_simp
theorem kf14 (vs : Array Value) (w : World) : (callFunc 14 vs).run Try.prog w = .ok (.enter 14 vs) w := by go_simp
theorem kf15 (vs : Array Value) (w : World) : (callFunc 15 vs).run Try.prog w = .ok (.enter 15 vs) w := by go_simp
theorem kf16 (vs : Array Value) (w : World) : (callFunc 16 vs).run Try.prog w = .ok (.enter 16 vs) w := by go_simp
theorem kf17 (vs : Array Value) (w : World) : (callFunc 17 vs).run Try.prog w = .ok (.enter 17 vs) w := by go_simp
theorem kf18 (vs : Array Value) (w : World) : (callFunc 18 vs).run Try.prog w = .ok (.enter 18 vs) w := by go_simp
theorem kf19 (vs : Array Value) (w : World) : (callFunc 19 vs).run Try.prog w = .ok (.enter 19 vs) w := by go_simp
theorem kf23 (vs : Array Value) (w : World) : (callFunc 23 vs).run Try.prog w = .ok (.enter 23 vs) w := by go_simp
theorem kf28 (vs : Array Value) (w : World) : (callFunc 28 vs).run Try.prog w = .ok (.enter 28 vs) w := by go_simp
theorem kf29 (vs : Array Value) (w : World) : (callFunc 29 vs).run Try.prog w = .ok (.enter 29 vs) w := by go_simp
theorem kf30 (vs : Array Value) (w : World) : (callFunc 30 vs).run Try.prog w = .ok (.enter 30 vs) w := by go_simp
theorem kf33 (vs : Array Value) (w : World) : (callFunc 33 vs).run Try.prog w = .ok (.enter 33 vs) w := by go_simp
theorem kf37 (vs : Array Value) (w : World) : (callFunc 37 vs).run Try.prog w = .ok (.enter 37 vs) w := by go_simp
theorem kf38 (vs : Array Value) (w : World) : (callFunc 38 vs).run Try.prog w = .ok (.enter 38 vs) w := by go_simp
theorem kf39 (vs : Array Value) (w : World) : (callFunc 39 vs).run Try.prog w = .ok (.enter 39 vs) w := by go_simp
end Go.Proofs.Ytcllmobjdnhmlaa
