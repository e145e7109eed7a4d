/- '==' and '!=' on two structures of the program, and on numbers and bools: what single operations yield. -/
import Derived.Test.YtcllmobjdnhmlaaWide2
import Derived.Test.YtcllmobjdnhmlaaGives
import Derived.Laws.StructEq
namespace Go.Proofs.Ytcllmobjdnhmlaa
open Go Go.RowKit
theorem guardN : Try.prog.eqGuardType Try.prog.depth 47 = false := by kernel_rfl
theorem fieldsN : Try.prog.underlying 47 = some (.struct (Try.prog.fieldsOf 47)) := by kernel_rfl
theorem heldN : Try.prog.stoodInHeld 47 = false := by kernel_rfl
theorem flN : (Try.prog.fieldsOf 47).toList = [{ name := "High", type := 2, offset := 0, embedded := false, tag := "", pkgPath := "", byteOffset := 0 }, { name := "Low", type := 41, offset := 1, embedded := false, tag := "", pkgPath := "", byteOffset := 8 }] := by kernel_rfl
theorem nl_beq (x y : Int) : (((x / 18446744073709551616 == y / 18446744073709551616) : Bool) && (x % 18446744073709551616 == y % 18446744073709551616)) = decide (x = y) := by
  by_cases h : x = y
  · subst h; simp
  · rw [decide_eq_false h]
    by_cases h1 : x / 18446744073709551616 = y / 18446744073709551616
    · have h2 : ¬ x % 18446744073709551616 = y % 18446744073709551616 := by omega
      simp [h2]
    · simp [h1]
theorem equalN (x y : Int) (w : World) : (Op.equalIn 10000 47 (.agg (nl x).toArray) (.agg (nl y).toArray)).run Try.prog w = .ok (decide (x = y)) w := by
  rw [run_equalIn_agg w 9999 47 _ _ fieldsN heldN, flN, ← nl_beq]
  have p0 : ∀ z : Int, (part 2 (nl z).toArray 0).run Try.prog w = .ok (.int .i64 (z / 18446744073709551616)) w := by intro z; simp [part, nl]
  have p1 : ∀ z : Int, (part 41 (nl z).toArray 1).run Try.prog w = .ok (.int .u64 (z % 18446744073709551616)) w := by intro z; simp [part, nl]
  simp only [Op.eqFields, ne_eq, not_false_eq_true, if_true, Sem.run_bind, p0, p1, Result.andThen_ok, run_equalIn_int w 9998 2 .i64 .i64 _ _ Try.underlying2, run_equalIn_int w 9998 41 .u64 .u64 _ _ Try.underlying41, String.reduceEq, Sem.run_ite, Sem.run_pure]
  cases (x / 18446744073709551616 == y / 18446744073709551616) <;> cases (x % 18446744073709551616 == y % 18446744073709551616) <;> rfl
theorem eqlN (x y : Int) (w : World) : (binOp .eql 47 (.agg (nl x).toArray) (.agg (nl y).toArray)).run Try.prog w = .ok (.bool (decide (x = y))) w := by
  rw [run_eql_struct, equalN]; rfl
theorem neqN (x y : Int) (w : World) : (binOp .neq 47 (.agg (nl x).toArray) (.agg (nl y).toArray)).run Try.prog w = .ok (.bool (!decide (x = y))) w := by
  rw [run_neq_struct, equalN]; rfl
section
variable {P : Program} {ops : Array Oper} {rest : List Oper} {a : Act} {w : World} {Q : Exit → Act → World → Prop} {dst : Option Tmp} {ty yt : TypeId} {pos : String} {aft : Array Edge} {gd : Option (Nat × Bool)} {K : Value → World → Prop}
theorem g_eqlN (x y : Operand) (p q : Int) (b : Bool) (hx : a.eval x = .agg (nl p).toArray) (hy : a.eval y = .agg (nl q).toArray) (hb : decide (p = q) = b) (hk : K (.bool b) w) : gives Try.prog ⟨dst, .binOp .eql 47 x y yt, ty, pos, aft, gd⟩ a w K :=
  g_val (.bool b) w (by subst hb; simp [execOp, hx, hy, eqGuard, eqlN]) hk
theorem g_neqN (x y : Operand) (p q : Int) (b : Bool) (hx : a.eval x = .agg (nl p).toArray) (hy : a.eval y = .agg (nl q).toArray) (hb : decide (p = q) = b) (hk : K (.bool (!b)) w) : gives Try.prog ⟨dst, .binOp .neq 47 x y yt, ty, pos, aft, gd⟩ a w K :=
  g_val (.bool (!b)) w (by subst hb; simp [execOp, hx, hy, eqGuard, neqN]) hk
theorem g_extract (x : Operand) (vs : Array Value) (i : Nat) (v : Value) (hx : a.eval x = .tuple vs) (hv : vs[i]? = some v) (hk : K v w) : gives P ⟨dst, .extract x i, ty, pos, aft, gd⟩ a w K :=
  g_val v w (by simp [execOp, hx, hv, Instr.extract]) hk
theorem g_pickt (c x y : Operand) (v : Value) (hc : a.eval c = .bool true) (hx : a.eval x = v) (hk : K v w) : gives P ⟨dst, .pick c x y, ty, pos, aft, gd⟩ a w K :=
  g_val v w (by simp [execOp, hc, hx, asBool]) hk
theorem g_pickf (c x y : Operand) (v : Value) (hc : a.eval c = .bool false) (hy : a.eval y = v) (hk : K v w) : gives P ⟨dst, .pick c x y, ty, pos, aft, gd⟩ a w K :=
  g_val v w (by simp [execOp, hc, hy, asBool]) hk
theorem g_igeq (t : TypeId) (x y : Operand) (k : IntKind) (p q : Int) (b : Bool) (hx : a.eval x = .int k p) (hy : a.eval y = .int k q) (hb : decide (q ≤ p) = b) (hk : K (.bool b) w) : gives P ⟨dst, .binOp .geq t x y yt, ty, pos, aft, gd⟩ a w K :=
  g_val (.bool b) w (by subst hb; simp [execOp, hx, hy, eqGuard, binOp, Op.intCmp]) hk
theorem g_ileq (t : TypeId) (x y : Operand) (k : IntKind) (p q : Int) (b : Bool) (hx : a.eval x = .int k p) (hy : a.eval y = .int k q) (hb : decide (p ≤ q) = b) (hk : K (.bool b) w) : gives P ⟨dst, .binOp .leq t x y yt, ty, pos, aft, gd⟩ a w K :=
  g_val (.bool b) w (by subst hb; simp [execOp, hx, hy, eqGuard, binOp, Op.intCmp]) hk
theorem g_igtr (t : TypeId) (x y : Operand) (k : IntKind) (p q : Int) (b : Bool) (hx : a.eval x = .int k p) (hy : a.eval y = .int k q) (hb : decide (q < p) = b) (hk : K (.bool b) w) : gives P ⟨dst, .binOp .gtr t x y yt, ty, pos, aft, gd⟩ a w K :=
  g_val (.bool b) w (by subst hb; simp [execOp, hx, hy, eqGuard, binOp, Op.intCmp]) hk
/-- One operation that its guard wants, in a statement of fixed order. -/
theorem L_give {o : Oper} (hw : Region.wanted o (yielded ops a.tmps) = true) (h : gives P o a w (fun v w' => wpList P ops Q rest (a.put o.dst v) w')) : wpList P ops Q (o :: rest) a w := by
  unfold wpList; rw [if_pos hw]; exact .inl (wp_of_gives rfl h (fun _ _ h => h))
theorem at_binD {x y : Operand} {b : BinOp} {t yt : TypeId} (d : Tmp) (h : wpList P ops Q (⟨some d, .binOp b t x y yt, ty, pos, aft, gd⟩ :: rest) a w) : wpList P ops Q (⟨some d, .binOp b t x y yt, ty, pos, aft, gd⟩ :: rest) a w := h
theorem at_loadDG {x : Operand} {t : TypeId} (d : Tmp) (h : wpList P ops Q (⟨some d, .load t x, ty, pos, aft, gd⟩ :: rest) a w) : wpList P ops Q (⟨some d, .load t x, ty, pos, aft, gd⟩ :: rest) a w := h
theorem at_callDG {c : Call} (d : Tmp) (h : wpList P ops Q (⟨some d, .call c, ty, pos, aft, gd⟩ :: rest) a w) : wpList P ops Q (⟨some d, .call c, ty, pos, aft, gd⟩ :: rest) a w := h
theorem run_cell41 (w : World) (b o : Nat) (v : Value) (hc : w.cell? ⟨b, o, none⟩ = some v) (x : Operand) (hx : a.eval x = .pointer (some ⟨b, o, none⟩)) : (execOp a.eval ⟨dst, .load 41 x, ty, pos, aft, gd⟩).run Try.prog w = .ok (.value v) w := by
  simp only [execOp, hx]
  go_simp
theorem run_cell2 (w : World) (b o : Nat) (v : Value) (hc : w.cell? ⟨b, o, none⟩ = some v) (x : Operand) (hx : a.eval x = .pointer (some ⟨b, o, none⟩)) : (execOp a.eval ⟨dst, .load 2 x, ty, pos, aft, gd⟩).run Try.prog w = .ok (.value v) w := by
  simp only [execOp, hx]
  go_simp
theorem g_cell41 (x : Operand) (b o : Nat) (cs : List Value) (bt : TypeId) (v : Value) (hx : a.eval x = .pointer (some ⟨b, o, none⟩)) (hb : Blk w b cs bt) (hv : cs[o]? = some v) (hk : K v w) : gives Try.prog ⟨dst, .load 41 x, ty, pos, aft, gd⟩ a w K :=
  g_val v w (run_cell41 w b o v (hb.cell o v hv) x hx) hk
theorem g_cell2 (x : Operand) (b o : Nat) (cs : List Value) (bt : TypeId) (v : Value) (hx : a.eval x = .pointer (some ⟨b, o, none⟩)) (hb : Blk w b cs bt) (hv : cs[o]? = some v) (hk : K v w) : gives Try.prog ⟨dst, .load 2 x, ty, pos, aft, gd⟩ a w K :=
  g_val v w (run_cell2 w b o v (hb.cell o v hv) x hx) hk
theorem L_cell41 (x : Operand) (b o : Nat) (cs : List Value) (bt : TypeId) (v : Value) (hx : a.eval x = .pointer (some ⟨b, o, none⟩)) (hb : Blk w b cs bt) (hv : cs[o]? = some v) (h : wpList Try.prog ops Q rest (a.put dst v) w) :
    wpList Try.prog ops Q (⟨dst, .load 41 x, ty, pos, aft, none⟩ :: rest) a w := by
  refine wpList_plain rfl fun K hK => ?_
  unfold Oper.wp
  rw [run_cell41 w b o v (hb.cell o v hv) x hx]
  exact hK _ _ h
theorem L_cell2 (x : Operand) (b o : Nat) (cs : List Value) (bt : TypeId) (v : Value) (hx : a.eval x = .pointer (some ⟨b, o, none⟩)) (hb : Blk w b cs bt) (hv : cs[o]? = some v) (h : wpList Try.prog ops Q rest (a.put dst v) w) :
    wpList Try.prog ops Q (⟨dst, .load 2 x, ty, pos, aft, none⟩ :: rest) a w := by
  refine wpList_plain rfl fun K hK => ?_
  unfold Oper.wp
  rw [run_cell2 w b o v (hb.cell o v hv) x hx]
  exact hK _ _ h
theorem g_build0 (hk : K (.agg (nl 0).toArray) w) : gives Try.prog ⟨dst, .build 47 #[], ty, pos, aft, gd⟩ a w K :=
  g_val (.agg (nl 0).toArray) w (by simp only [execOp]; go_simp; rfl) hk
theorem g_build2 (x y : Operand) (p q z : Int) (hx : a.eval x = .int .i64 p) (hy : a.eval y = .int .u64 q) (hz : Value.agg (nl z).toArray = .agg #[.int .i64 p, .int .u64 q]) (hk : K (.agg (nl z).toArray) w) : gives Try.prog ⟨dst, .build 47 #[(0, x), (1, y)], ty, pos, aft, gd⟩ a w K :=
  g_val (.agg (nl z).toArray) w (by rw [hz]; simp only [execOp, hx, hy, List.map_toArray, List.map_cons, List.map_nil]; go_simp) hk
theorem mono_same {f : FuncId} {args : Array Value} {W w : World} {v : Value} (hw : Below W.heap.size W w) (h : Calls P f args w fun e w' => e = .returned v ∧ w' = w) :
    Calls P f args w fun e w' => ∃ x, e = .returned x ∧ x = v ∧ Below W.heap.size W w' :=
  h.mono fun _ _ ⟨h1, h2⟩ => ⟨v, h1, rfl, by rw [h2]; exact hw⟩
theorem g_beql (x y : Operand) (p q : Bool) (hx : a.eval x = .bool p) (hy : a.eval y = .bool q) (hk : K (.bool (p == q)) w) : gives Try.prog ⟨dst, .binOp .eql 4 x y yt, ty, pos, aft, gd⟩ a w K := by
  have h := run_equalIn_bool w 9999 4 p q Try.underlying4
  exact g_val (.bool (p == q)) w (by simp [execOp, hx, hy, eqGuard, binOp, Op.equal, Op.maxDepth, h]) hk
theorem g_bneq (x y : Operand) (p q : Bool) (hx : a.eval x = .bool p) (hy : a.eval y = .bool q) (hk : K (.bool (p != q)) w) : gives Try.prog ⟨dst, .binOp .neq 4 x y yt, ty, pos, aft, gd⟩ a w K := by
  have h := run_equalIn_bool w 9999 4 p q Try.underlying4
  exact g_val (.bool (p != q)) w (by simp [execOp, hx, hy, eqGuard, binOp, Op.equal, Op.maxDepth, h, bne]) hk
theorem g_ieq (t : TypeId) (x y : Operand) (k : IntKind) (p q : Int) (b : Bool) (hx : a.eval x = .int k p) (hy : a.eval y = .int k q) (hb : decide (p = q) = b) (hk : K (.bool b) w) : gives P ⟨dst, .binOp .eql t x y yt, ty, pos, aft, gd⟩ a w K :=
  g_val (.bool b) w (by subst hb; simp [execOp, hx, hy, eqGuard, binOp, Op.intCmp]; rfl) hk
theorem g_ine (t : TypeId) (x y : Operand) (k : IntKind) (p q : Int) (b : Bool) (hx : a.eval x = .int k p) (hy : a.eval y = .int k q) (hb : decide (p ≠ q) = b) (hk : K (.bool b) w) : gives P ⟨dst, .binOp .neq t x y yt, ty, pos, aft, gd⟩ a w K :=
  g_val (.bool b) w (by subst hb; simp [execOp, hx, hy, eqGuard, binOp, Op.intCmp]; rfl) hk
theorem g_ilss (t : TypeId) (x y : Operand) (k : IntKind) (p q : Int) (b : Bool) (hx : a.eval x = .int k p) (hy : a.eval y = .int k q) (hb : decide (p < q) = b) (hk : K (.bool b) w) : gives P ⟨dst, .binOp .lss t x y yt, ty, pos, aft, gd⟩ a w K :=
  g_val (.bool b) w (by subst hb; simp [execOp, hx, hy, eqGuard, binOp, Op.intCmp]) hk
theorem g_unot (t : TypeId) (x : Operand) (b : Bool) (hx : a.eval x = .bool b) (hk : K (.bool (!b)) w) : gives P ⟨dst, .unOp .not t x, ty, pos, aft, gd⟩ a w K :=
  g_val (.bool (!b)) w (by simp [execOp, hx, Op.unary]) hk
theorem gn {o : Oper} (hw : Region.wanted o (yielded ops a.tmps) = false) (h : K undef w) : givesW P ops o a w K := by
  unfold givesW; rw [if_neg (by rw [hw]; decide)]; exact h
theorem gw {o : Oper} (hw : Region.wanted o (yielded ops a.tmps) = true) (h : gives P o a w K) : givesW P ops o a w K := by
  unfold givesW; rw [if_pos hw]; exact h
theorem mono_val {f : FuncId} {args : Array Value} {W w : World} {v : Value} (hw : Below W.heap.size W w) (h : Calls P f args w fun e w' => e = .returned v ∧ Below w.heap.size w w') :
    Calls P f args w fun e w' => ∃ x, e = .returned x ∧ x = v ∧ Below W.heap.size W w' :=
  h.mono fun _ _ ⟨h1, h2⟩ => ⟨v, h1, rfl, hw.trans (h2.mono hw.size)⟩
end
theorem kf24 (vs : Array Value) (w : World) : (callFunc 24 vs).run Try.prog w = .ok (.enter 24 vs) w := by go_simp
theorem kf44 (vs : Array Value) (w : World) : (callFunc 44 vs).run Try.prog w = .ok (.enter 44 vs) w := by go_simp
theorem kf20 (vs : Array Value) (w : World) : (callFunc 20 vs).run Try.prog w = .ok (.enter 20 vs) w := by go_simp
theorem kf31 (vs : Array Value) (w : World) : (callFunc 31 vs).run Try.prog w = .ok (.enter 31 vs) w := by go_simp
theorem kf21 (vs : Array Value) (w : World) : (callFunc 21 vs).run Try.prog w = .ok (.enter 21 vs) w := by go_simp
theorem kf26 (vs : Array Value) (w : World) : (callFunc 26 vs).run Try.prog w = .ok (.enter 26 vs) w := by go_simp
theorem kf25 (vs : Array Value) (w : World) : (callFunc 25 vs).run Try.prog w = .ok (.enter 25 vs) w := by go_simp
theorem kf27 (vs : Array Value) (w : World) : (callFunc 27 vs).run Try.prog w = .ok (.enter 27 vs) w := by go_simp
theorem kf40 (vs : Array Value) (w : World) : (callFunc 40 vs).run Try.prog w = .ok (.enter 40 vs) w := by go_simp
theorem kf50 (vs : Array Value) (w : World) : (callFunc 50 vs).run Try.prog w = .ok (.enter 50 vs) w := by go_simp
theorem kf36 (vs : Array Value) (w : World) : (callFunc 36 vs).run Try.prog w = .ok (.enter 36 vs) w := by go_simp
theorem kf22 (vs : Array Value) (w : World) : (callFunc 22 vs).run Try.prog w = .ok (.enter 22 vs) w := by go_simp
theorem kf34 (vs : Array Value) (w : World) : (callFunc 34 vs).run Try.prog w = .ok (.enter 34 vs) w := by go_simp
theorem kf35 (vs : Array Value) (w : World) : (callFunc 35 vs).run Try.prog w = .ok (.enter 35 vs) w := by go_simp
theorem kf46 (vs : Array Value) (w : World) : (callFunc 46 vs).run Try.prog w = .ok (.enter 46 vs) w := by go_simp
theorem kf41 (vs : Array Value) (w : World) : (callFunc 41 vs).run Try.prog w = .ok (.enter 41 vs) w := by go_simp
theorem kf42 (vs : Array Value) (w : World) : (callFunc 42 vs).run Try.prog w = .ok (.enter 42 vs) w := by go_simp
theorem kf43 (vs : Array Value) (w : World) : (callFunc 43 vs).run Try.prog w = .ok (.enter 43 vs) w := by go_simp
theorem kf48 (vs : Array Value) (w : World) : (callFunc 48 vs).run Try.prog w = .ok (.enter 48 vs) w := by go_simp
theorem kf32 (vs : Array Value) (w : World) : (callFunc 32 vs).run Try.prog w = .ok (.enter 32 vs) w := by go_simp
theorem kf51 (vs : Array Value) (w : World) : (callFunc 51 vs).run Try.prog w = .ok (.enter 51 vs) w := by go_simp
theorem kf52 (vs : Array Value) (w : World) : (callFunc 52 vs).run Try.prog w = .ok (.enter 52 vs) w := by go_simp
theorem kf47 (vs : Array Value) (w : World) : (callFunc 47 vs).run Try.prog w = .ok (.enter 47 vs) w := by go_simp
end Go.Proofs.Ytcllmobjdnhmlaa
