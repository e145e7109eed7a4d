/- What single operations yield, for statements whose order is left open. Over any program. -/
import Derived.Test.YtpkjocibgmjhdaaReg
import Derived.Test.YtpkjocibgmjhdaaBlk
namespace Go.Proofs.Ytpkjocibgmjhdaa
set_option maxRecDepth 10000
open Go Go.RowKit
variable {P : Program} {a : Act} {w : World} {K : Value → World → Prop} {dst : Option Tmp} {ty : TypeId} {pos : String} {aft : Array Edge} {gd : Option (Nat × Bool)}
theorem g_move (x : Operand) (v : Value) (hx : a.eval x = v) (hk : K v w) : gives P ⟨dst, .move x, ty, pos, aft, gd⟩ a w K := by
  unfold gives; simp only [execOp, hx, Sem.run_pure]; exact hk
theorem g_assign (x : Operand) (v : Value) (hx : a.eval x = v) (hk : K v w) : gives P ⟨dst, .assign x, ty, pos, aft, gd⟩ a w K := by
  unfold gives; simp only [execOp, hx, Sem.run_pure]; exact hk
theorem g_load (t : TypeId) (x : Operand) (b o n : Nat) (cs : List Value) (bt : TypeId) (d : TypeDesc) (hx : a.eval x = .pointer (some ⟨b, o, none⟩)) (hb : Blk w b cs bt)
    (hu : P.underlying t = some d) (hd : d.isRow = true) (hi : (P.info? t).map (·.size) = some n) (hl : o + n ≤ cs.length) (r : List Value) (hr : (cs.drop o).take n = r) (hk : K (.agg r.toArray) w) :
    gives P ⟨dst, .load t x, ty, pos, aft, gd⟩ a w K := by
  subst hr
  unfold gives
  simp only [execOp, hx, Sem.run_bind, run_loadAt_mid w b o t _ d (hb.range o n) hu hd (by rw [hi]; simp; omega), Result.andThen_ok, Sem.run_pure]
  exact hk
theorem g_load_all (t : TypeId) (x : Operand) (b : Nat) (cs : List Value) (bt : TypeId) (d : TypeDesc) (hx : a.eval x = .pointer (some ⟨b, 0, none⟩)) (hb : Blk w b cs bt)
    (hu : P.underlying t = some d) (hd : d.isRow = true) (hi : (P.info? t).map (·.size) = some cs.length) (hk : K (.agg cs.toArray) w) :
    gives P ⟨dst, .load t x, ty, pos, aft, gd⟩ a w K :=
  g_load t x b 0 cs.length cs bt d hx hb hu hd hi (by omega) cs (by simp) hk
theorem g_alloc (t : TypeId) (cs : List Value) (hz : ∀ w, (zeroValue t).run P w = .ok (.agg cs.toArray) w)
    (hk : ∀ w', Turn w.heap.size w w' → Blk w' w.heap.size cs t → K (.pointer (some ⟨w.heap.size, 0, none⟩)) w') : gives P ⟨dst, .alloc t, ty, pos, aft, gd⟩ a w K := by
  obtain ⟨h1, h2⟩ := turn_alloc w cs t
  unfold gives
  simp only [execOp, Instr.alloc, hz, newVar, newRow, Value.cells, Sem.run_bind, run_newObj, Result.andThen_ok, Sem.run_pure]
  exact hk _ h1 h2
theorem g_store_all (t : TypeId) (x y : Operand) (b : Nat) (vs cs : List Value) (bt : TypeId) (hx : a.eval x = .pointer (some ⟨b, 0, none⟩)) (hy : a.eval y = .agg vs.toArray) (hb : Blk w b cs bt)
    (hi : (P.info? t).map (·.size) = some vs.length) (hl : vs.length = cs.length) (h1 : ∀ v ∈ vs, v.oneCell' = true)
    (hk : ∀ w', Turn b w w' → Blk w' b vs bt → K undef w') : gives P ⟨dst, .store t x y, ty, pos, aft, gd⟩ a w K := by
  obtain ⟨h2, h3⟩ := turn_setCells b bt vs 0 w cs hb (by omega)
  rw [List.take_zero, List.nil_append, List.drop_eq_nil_of_le (by omega), List.append_nil] at h3
  unfold gives
  simp only [execOp, hx, hy, Sem.run_bind, run_storeAt_mid w b 0 t vs.toArray (hb.there 0 _ (by simp; omega)) (by simpa using hi) (all_oneCell_toArray h1), Result.andThen_ok, Sem.run_pure]
  exact hk _ h2 h3
/-- A call of a function with a body. -/
theorem g_call (f : FuncId) (args : List Operand) (ts : Array TypeId) (vs : List Value) (hc : (callFunc f vs.toArray).run P w = .ok (.enter f vs.toArray) w) (hv : args.map a.eval = vs)
    (h : Calls P f vs.toArray w (fun e w'' => ∃ v, e = .returned v ∧ K v w'')) : gives P ⟨dst, .call { callee := .value (.func f), args := args.toArray, argTypes := ts }, ty, pos, aft, gd⟩ a w K := by
  have e : a.eval (.func f) = .func (.func f) #[] #[] := rfl
  unfold gives
  simp only [execOp, resolve, e, Deferred.ofValue, invoke, List.map_toArray, hv, Sem.run_bind, Sem.run_pure, Result.andThen_ok, Array.append_empty, Array.empty_append, hc]
  exact h
/-- 'copy(x, s)'. -/
theorem g_copy (x y : Operand) (dT sT e : TypeId) (b o dl dc k : Nat) (s : ByteArray) (cs : List Value) (bt : TypeId) (hx : a.eval x = .slice (some ⟨b, o, none⟩) dl dc) (hy : a.eval y = .string s)
    (hu : P.underlying dT = some (.slice e)) (hs : ∀ w, (sizeOf e).run P w = .ok 1 w) (hb : Blk w b cs bt) (hl : o + dl ≤ cs.length) (hk : min s.size dl = k)
    (h : ∀ w', Turn b w w' → Blk w' b (cs.take o ++ (s.data.toList.take k).map (fun c => Value.int .u8 c.toNat) ++ cs.drop (o + k)) bt → K (.int .i64 k) w') :
    gives P ⟨dst, .call { callee := .builtin .copy, args := #[x, y], argTypes := #[dT, sT] }, ty, pos, aft, gd⟩ a w K := by
  obtain ⟨w', hrun, h1, h2⟩ := run_copy_blk dT sT ty e b o dl dc k s cs bt hu hs hb hl hk
  unfold gives
  simp only [execOp, resolve, invoke, builtin, List.map_toArray, List.map_cons, List.map_nil, hx, hy, Sem.run_bind, Sem.run_pure, Result.andThen_ok, hrun]
  exact h _ h1 h2
/-- What runs to a value. -/
theorem g_val {o : Oper} (v : Value) (w' : World) (hr : (execOp a.eval o).run P w = .ok (.value v) w') (hk : K v w') : gives P o a w K := by
  unfold gives; rw [hr]; exact hk
end Go.Proofs.Ytpkjocibgmjhdaa
