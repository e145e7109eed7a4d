/- A clock (the program's and the reference's: three numbers) in a walk: what single operations yield on it. -/
import Derived.Test.YtpenicjlpiechaaDoorSt2
import Derived.Test.YtpenicjlpiechaaDoorStG
namespace Go.Proofs.YtpenicjlpiechaaDoor.Wd
set_option maxRecDepth 10000
open Go Go.RowKit
set_option linter.unusedVariables false
/-- A clock as the program's structure. -/
def cl (f s r : Int) : List Value := [.int .i64 f, .int .i64 s, .int .i64 r]
theorem one_cl (f s r : Int) : ∀ v ∈ cl f s r, v.oneCell' = true := by
  intro v hv
  simp only [cl, List.mem_cons, List.not_mem_nil, or_false] at hv
  rcases hv with rfl | rfl | rfl <;> rfl

theorem szC (f s r : Int) : (Tryd.prog.info? 36).map (·.size) = some (cl f s r).length := by
  have h : (Tryd.prog.info? 36).map (·.size) = some 3 := by kernel_rfl
  exact h
theorem zeroC : ∀ w, (zeroValue 36).run Tryd.prog w = .ok (.agg (cl 0 0 0).toArray) w := by
  intro w; kernel_rfl
theorem guardC : Tryd.prog.eqGuardType Tryd.prog.depth 36 = false := by kernel_rfl
theorem fieldsC : Tryd.prog.underlying 36 = some (.struct (Tryd.prog.fieldsOf 36)) := by kernel_rfl
theorem heldC : Tryd.prog.stoodInHeld 36 = false := by kernel_rfl
theorem flC : (Tryd.prog.fieldsOf 36).toList = [{ name := "From", type := 2, offset := 0, embedded := false, tag := "", pkgPath := "", byteOffset := 0 }, { name := "Shows", type := 2, offset := 1, embedded := false, tag := "", pkgPath := "", byteOffset := 8 }, { name := "Rate", type := 2, offset := 2, embedded := false, tag := "", pkgPath := "", byteOffset := 16 }] := by kernel_rfl
theorem equalC (f s r f' s' r' : Int) (w : World) : (Op.equalIn 10000 36 (.agg (cl f s r).toArray) (.agg (cl f' s' r').toArray)).run Tryd.prog w = .ok ((f == f') && ((s == s') && (r == r'))) w := by
  rw [run_equalIn_agg w 9999 36 _ _ fieldsC heldC, flC]
  have p0 : ∀ f s r : Int, (part 2 (cl f s r).toArray 0).run Tryd.prog w = .ok (.int .i64 f) w := by intro f s r; simp [part, cl]
  have p1 : ∀ f s r : Int, (part 2 (cl f s r).toArray 1).run Tryd.prog w = .ok (.int .i64 s) w := by intro f s r; simp [part, cl]
  have p2 : ∀ f s r : Int, (part 2 (cl f s r).toArray 2).run Tryd.prog w = .ok (.int .i64 r) w := by intro f s r; simp [part, cl]
  have e2 := fun x y => run_equalIn_int w 9998 2 .i64 .i64 x y Tryd.underlying2
  simp only [Op.eqFields, ne_eq, not_false_eq_true, if_true, Sem.run_bind, p0, p1, p2, Result.andThen_ok, e2, String.reduceEq, Sem.run_ite, Sem.run_pure]
  cases (f == f') <;> cases (s == s') <;> cases (r == r') <;> simp
theorem eqlC (f s r f' s' r' : Int) (w : World) : (binOp .eql 36 (.agg (cl f s r).toArray) (.agg (cl f' s' r').toArray)).run Tryd.prog w = .ok (.bool (decide (f = f' ∧ s = s' ∧ r = r'))) w := by
  have h : decide (f = f' ∧ s = s' ∧ r = r') = ((f == f') && ((s == s') && (r == r'))) := by simp only [Bool.decide_and]; rfl
  rw [run_eql_struct, equalC, h]; rfl

section
variable {P : Program} {ops : Array Oper} {rest : List Oper} {a : Act} {w : World} {Q : Exit → Act → World → Prop} {dst : Option Tmp} {ty yt : TypeId} {pos : String} {aft : Array Edge} {gd : Option (Nat × Bool)} {K : Value → World → Prop}
theorem at_bld {t : TypeId} {ps : Array (Nat × Operand)} (d : Tmp) (h : wpList P ops Q (⟨some d, .build t ps, ty, pos, aft, gd⟩ :: rest) a w) : wpList P ops Q (⟨some d, .build t ps, ty, pos, aft, gd⟩ :: rest) a w := h
theorem at_cnv {t t' : TypeId} {x : Operand} (d : Tmp) (h : wpList P ops Q (⟨some d, .convert t t' x, ty, pos, aft, gd⟩ :: rest) a w) : wpList P ops Q (⟨some d, .convert t t' x, ty, pos, aft, gd⟩ :: rest) a w := h
theorem g_eqlC (x y : Operand) (f s r f' s' r' : Int) (b : Bool) (hx : a.eval x = .agg (cl f s r).toArray) (hy : a.eval y = .agg (cl f' s' r').toArray) (hb : decide (f = f' ∧ s = s' ∧ r = r') = b) (hk : K (.bool b) w) : gives Tryd.prog ⟨dst, .binOp .eql 36 x y yt, ty, pos, aft, gd⟩ a w K :=
  g_val (.bool b) w (by subst hb; simp [execOp, hx, hy, eqGuard, eqlC]) hk
theorem g_bldC0 (hk : K (.agg (cl 0 0 0).toArray) w) : gives Tryd.prog ⟨dst, .build 36 #[], ty, pos, aft, gd⟩ a w K :=
  g_val (.agg (cl 0 0 0).toArray) w (by simp only [execOp]; go_simp; rfl) hk
theorem g_bldC (x y z : Operand) (f s r : Int) (hx : a.eval x = .int .i64 f) (hy : a.eval y = .int .i64 s) (hz : a.eval z = .int .i64 r) (hk : K (.agg (cl f s r).toArray) w) : gives Tryd.prog ⟨dst, .build 36 #[(0, x), (1, y), (2, z)], ty, pos, aft, gd⟩ a w K :=
  g_val (.agg (cl f s r).toArray) w (by simp only [execOp, hx, hy, hz, List.map_toArray, List.map_cons, List.map_nil]; go_simp; rfl) hk
theorem g_fC0 (x : Operand) (b : Nat) (hx : a.eval x = .pointer (some ⟨b, 0, none⟩)) (hk : K (.pointer (some ⟨b, 0, none⟩)) w) : gives Tryd.prog ⟨dst, .fieldAddr 36 x 0, ty, pos, aft, gd⟩ a w K :=
  g_val _ w (by simp only [execOp, hx]; go_simp) hk
theorem g_fC1 (x : Operand) (b : Nat) (hx : a.eval x = .pointer (some ⟨b, 0, none⟩)) (hk : K (.pointer (some ⟨b, 1, none⟩)) w) : gives Tryd.prog ⟨dst, .fieldAddr 36 x 1, ty, pos, aft, gd⟩ a w K :=
  g_val _ w (by simp only [execOp, hx]; go_simp) hk
theorem g_fC2 (x : Operand) (b : Nat) (hx : a.eval x = .pointer (some ⟨b, 0, none⟩)) (hk : K (.pointer (some ⟨b, 2, none⟩)) w) : gives Tryd.prog ⟨dst, .fieldAddr 36 x 2, ty, pos, aft, gd⟩ a w K :=
  g_val _ w (by simp only [execOp, hx]; go_simp) hk
end
theorem kf16 (vs : Array Value) (w : World) : (callFunc 16 vs).run Tryd.prog w = .ok (.enter 16 vs) w := by go_simp
theorem kf54 (vs : Array Value) (w : World) : (callFunc 54 vs).run Tryd.prog w = .ok (.enter 54 vs) w := by go_simp
theorem kf38 (vs : Array Value) (w : World) : (callFunc 38 vs).run Tryd.prog w = .ok (.enter 38 vs) w := by go_simp
theorem kf15 (vs : Array Value) (w : World) : (callFunc 15 vs).run Tryd.prog w = .ok (.enter 15 vs) w := by go_simp
theorem kf44 (vs : Array Value) (w : World) : (callFunc 44 vs).run Tryd.prog w = .ok (.enter 44 vs) w := by go_simp
theorem kf60 (vs : Array Value) (w : World) : (callFunc 60 vs).run Tryd.prog w = .ok (.enter 60 vs) w := by go_simp
theorem kf74 (vs : Array Value) (w : World) : (callFunc 74 vs).run Tryd.prog w = .ok (.enter 74 vs) w := by go_simp
theorem kf63 (vs : Array Value) (w : World) : (callFunc 63 vs).run Tryd.prog w = .ok (.enter 63 vs) w := by go_simp
theorem kf64 (vs : Array Value) (w : World) : (callFunc 64 vs).run Tryd.prog w = .ok (.enter 64 vs) w := by go_simp
theorem kf65 (vs : Array Value) (w : World) : (callFunc 65 vs).run Tryd.prog w = .ok (.enter 65 vs) w := by go_simp
end Go.Proofs.YtpenicjlpiechaaDoor.Wd
