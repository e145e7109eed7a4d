/- Keys (32 cells) and minds (33) in a walk, and what single operations yield: numbers, bools, keys, minds, cells. -/
import Derived.Test.YtcenaklbfdhimaaDoorChMath
import Derived.Test.YtcenaklbfdhimaaDoorMacW5
import Derived.Test.YtcenaklbfdhimaaDoorRefM2
import Derived.Laws.StructEq
namespace Go.Proofs.YtcenaklbfdhimaaDoor
open Go Go.RowKit
set_option linter.unusedVariables false
set_option linter.unusedSimpArgs false
/-- A key as the program's array. -/
def kc (k : Ky) : List Value := bc k.l
/-- A mind as the program's structure. -/
def mc (k : Ky) (n : Int) : List Value := bc k.l ++ [.int .i64 n]
theorem kc_length (k : Ky) : (kc k).length = 32 := by rw [kc, bc_length, k.len]
theorem mc_length (k : Ky) (n : Int) : (mc k n).length = 33 := by rw [mc, List.length_append, bc_length, k.len]; rfl
theorem one_kc (k : Ky) : ∀ v ∈ kc k, v.oneCell' = true := bc_one _
theorem one_mc (k : Ky) (n : Int) : ∀ v ∈ mc k n, v.oneCell' = true := by
  intro v hv
  rcases List.mem_append.1 hv with h | h
  · exact bc_one _ v h
  · obtain rfl := List.mem_singleton.1 h; rfl
theorem szK (k : Ky) : (Tryd.prog.info? 23).map (·.size) = some (kc k).length := zk23 k.l k.len
theorem szM (k : Ky) (n : Int) : (Tryd.prog.info? 34).map (·.size) = some (mc k n).length := by
  have h : (Tryd.prog.info? 34).map (·.size) = some 33 := by kernel_rfl
  rw [mc_length]; exact h
theorem zeroK : ∀ w, (zeroValue 23).run Tryd.prog w = .ok (.agg (kc zk).toArray) w := zero23
theorem zeroM : ∀ w, (zeroValue 34).run Tryd.prog w = .ok (.agg (mc zk 0).toArray) w := by
  intro w; kernel_rfl
theorem mc_at (k : Ky) (n : Int) : (mc k n)[32]? = some (.int .i64 n) := by
  have h : (bc k.l).length = 32 := by rw [bc_length, k.len]
  rw [mc, List.getElem?_append_right (by omega), h]; rfl
theorem mc_take (k : Ky) (n : Int) : ((mc k n).drop 0).take 32 = kc k := by
  have h : (bc k.l).length = 32 := by rw [bc_length, k.len]
  rw [List.drop_zero, mc, List.take_append_of_le_length (by omega), List.take_of_length_le (by omega)]; rfl
theorem kk_len (k m : Ky) : (kc k).length = (kc m).length := by rw [kc_length, kc_length]
theorem mm_len (k m : Ky) (n p : Int) : (mc k n).length = (mc m p).length := by rw [mc_length, mc_length]
theorem fieldsM : Tryd.prog.underlying 34 = some (.struct (Tryd.prog.fieldsOf 34)) := by kernel_rfl
theorem heldM : Tryd.prog.stoodInHeld 34 = false := by kernel_rfl
theorem flM : (Tryd.prog.fieldsOf 34).toList = [{ name := "Known", type := 23, offset := 0, embedded := false, tag := "", pkgPath := "", byteOffset := 0 }, { name := "At", type := 3, offset := 32, embedded := false, tag := "", pkgPath := "", byteOffset := 32 }] := by kernel_rfl
theorem Tabs.on {w w' : World} (h : Tabs w) (hb : Below w.heap.size w w') : Tabs w' := h.below hb h.size
theorem flM0 : (Tryd.prog.fieldsOf 34)[0]? = some { name := "Known", type := 23, offset := 0, embedded := false, tag := "", pkgPath := "", byteOffset := 0 } := by kernel_rfl
theorem equalK (k m : Ky) (d : Nat) (w : World) : (Op.equalIn (d + 1 + 1) 23 (.agg (kc k).toArray) (.agg (kc m).toArray)).run Tryd.prog w = .ok (decide (k.l = m.l)) w := by
  rw [Op.equalIn]
  simp only [Sem.run_bind, run_underlying Tryd.underlying23, Result.andThen_ok, Tryd.sizeOf5, Std.Legacy.Range.forIn_eq_forIn_range', Std.Legacy.Range.size, Nat.sub_zero, Nat.add_sub_cancel, Nat.div_one]
  unfold kc
  rw [equal_loop 5 d Tryd.underlying5 Tryd.isAgg5 k.l m.l (by rw [k.len, m.len]) w 32 0 (by rw [k.len])]
  by_cases hc : k.l = m.l <;> simp [hc]
theorem partK (k : Ky) (n : Int) (w : World) : (part 23 (mc k n).toArray 0).run Tryd.prog w = .ok (.agg (kc k).toArray) w := by
  have h : ((mc k n).toArray.extract 0 (0 + 32)) = (kc k).toArray := by
    apply Array.toList_inj.1
    rw [Array.toList_extract, List.extract_eq_take_drop]
    exact mc_take k n
  simp only [part, Sem.run_bind, Tryd.isAgg23, Tryd.sizeOf23, Result.andThen_ok, if_true, Sem.run_pure, h]
theorem partA (k : Ky) (n : Int) (w : World) : (part 3 (mc k n).toArray 32).run Tryd.prog w = .ok (.int .i64 n) w := by
  have h : (mc k n).toArray[32]? = some (.int .i64 n) := by rw [List.getElem?_toArray]; exact mc_at k n
  simp [part, h]
theorem equalM (k m : Ky) (p q : Int) (b : Bool) (hb : decide (k.l = m.l ∧ p = q) = b) (w : World) : (Op.equalIn 10000 34 (.agg (mc k p).toArray) (.agg (mc m q).toArray)).run Tryd.prog w = .ok b w := by
  subst hb
  rw [run_equalIn_agg w 9999 34 _ _ fieldsM heldM, flM]
  simp only [Op.eqFields, ne_eq, not_false_eq_true, if_true, Sem.run_bind, partK, partA, Result.andThen_ok, equalK k m 9997, run_equalIn_int w 9998 3 .i64 .i64 _ _ Tryd.underlying3, String.reduceEq, Sem.run_ite, Sem.run_pure]
  by_cases h1 : k.l = m.l <;> by_cases h2 : p = q <;> simp [h1, h2]
/-- Cells laid one behind another. -/
theorem fold_set : ∀ (l : List Value) (i : Nat) (pre post : List Value), pre.length = i → l.length ≤ post.length → (l.zipIdx i).foldl (fun (cs : Array Value) (x : Value × Nat) => cs.setIfInBounds x.snd x.fst) (pre ++ post).toArray = (pre ++ l ++ post.drop l.length).toArray
  | [], i, pre, post, _, _ => by simp
  | v :: l, i, pre, [], h1, h2 => by simp at h2
  | v :: l, i, pre, p :: post, h1, h2 => by
    have ih := fold_set l (i + 1) (pre ++ [v]) post (by simp [h1]) (by simpa using h2)
    rw [List.zipIdx_cons, List.foldl_cons]
    have e : (pre ++ p :: post).toArray.setIfInBounds i v = (pre ++ [v] ++ post).toArray := by
      subst h1
      simp
    rw [e, ih]
    simp
theorem fold_key (k m : Ky) (n : Int) : (kc k).zipIdx.foldl (fun (cs : Array Value) (x : Value × Nat) => cs.setIfInBounds x.snd x.fst) (mc m n).toArray = (mc k n).toArray := by
  have h := fold_set (kc k) 0 [] (mc m n) rfl (by rw [kc_length, mc_length]; decide)
  rw [List.nil_append, List.nil_append, kc_length] at h
  rw [h]
  have e : (mc m n).drop 32 = [.int .i64 n] := by
    have h : (bc m.l).length = 32 := by rw [bc_length, m.len]
    rw [mc, List.drop_append, h, List.drop_eq_nil_of_le (by omega)]; rfl
  rw [e]; rfl
theorem mc_set (k : Ky) (n p : Int) : (mc k n).toArray.setIfInBounds 32 (.int .i64 p) = (mc k p).toArray := by
  have h : (bc k.l).length = 32 := by rw [bc_length, k.len]
  apply Array.toList_inj.1
  rw [Array.toList_setIfInBounds]
  show (mc k n).set 32 _ = mc k p
  rw [mc, List.set_append_right _ _ (by omega), h]; rfl
theorem zero_mc : (#[.int .u8 0, .int .u8 0, .int .u8 0, .int .u8 0, .int .u8 0, .int .u8 0, .int .u8 0, .int .u8 0, .int .u8 0, .int .u8 0, .int .u8 0, .int .u8 0, .int .u8 0, .int .u8 0, .int .u8 0, .int .u8 0, .int .u8 0, .int .u8 0, .int .u8 0, .int .u8 0, .int .u8 0, .int .u8 0, .int .u8 0, .int .u8 0, .int .u8 0, .int .u8 0, .int .u8 0, .int .u8 0, .int .u8 0, .int .u8 0, .int .u8 0, .int .u8 0, .int .i64 0] : Array Value) = (mc zk 0).toArray := rfl
theorem guardM : Tryd.prog.eqGuardType Tryd.prog.depth 34 = false := by kernel_rfl
section
variable {P : Program} {ops : Array Oper} {rest : List Oper} {a : Act} {w : World} {Q : Exit → Act → World → Prop} {dst : Option Tmp} {ty yt : TypeId} {pos : String} {aft : Array Edge} {gd : Option (Nat × Bool)} {K : Value → World → Prop}
theorem g_extract (x : Operand) (vs : Array Value) (i : Nat) (v : Value) (hx : a.eval x = .tuple vs) (hv : vs[i]? = some v) (hk : K v w) : gives P ⟨dst, .extract x i, ty, pos, aft, gd⟩ a w K :=
  g_val v w (by simp [execOp, hx, hv, Instr.extract]) hk
theorem g_pickt (c x y : Operand) (v : Value) (hc : a.eval c = .bool true) (hx : a.eval x = v) (hk : K v w) : gives P ⟨dst, .pick c x y, ty, pos, aft, gd⟩ a w K :=
  g_val v w (by simp [execOp, hc, hx, asBool]) hk
theorem g_pickf (c x y : Operand) (v : Value) (hc : a.eval c = .bool false) (hy : a.eval y = v) (hk : K v w) : gives P ⟨dst, .pick c x y, ty, pos, aft, gd⟩ a w K :=
  g_val v w (by simp [execOp, hc, hy, asBool]) hk
theorem g_igeq (t : TypeId) (x y : Operand) (k : IntKind) (p q : Int) (b : Bool) (hx : a.eval x = .int k p) (hy : a.eval y = .int k q) (hb : decide (q ≤ p) = b) (hk : K (.bool b) w) : gives P ⟨dst, .binOp .geq t x y yt, ty, pos, aft, gd⟩ a w K :=
  g_val (.bool b) w (by subst hb; simp [execOp, hx, hy, eqGuard, binOp, Op.intCmp]) hk
theorem g_ileq (t : TypeId) (x y : Operand) (k : IntKind) (p q : Int) (b : Bool) (hx : a.eval x = .int k p) (hy : a.eval y = .int k q) (hb : decide (p ≤ q) = b) (hk : K (.bool b) w) : gives P ⟨dst, .binOp .leq t x y yt, ty, pos, aft, gd⟩ a w K :=
  g_val (.bool b) w (by subst hb; simp [execOp, hx, hy, eqGuard, binOp, Op.intCmp]) hk
theorem g_igtr (t : TypeId) (x y : Operand) (k : IntKind) (p q : Int) (b : Bool) (hx : a.eval x = .int k p) (hy : a.eval y = .int k q) (hb : decide (q < p) = b) (hk : K (.bool b) w) : gives P ⟨dst, .binOp .gtr t x y yt, ty, pos, aft, gd⟩ a w K :=
  g_val (.bool b) w (by subst hb; simp [execOp, hx, hy, eqGuard, binOp, Op.intCmp]) hk
theorem g_ilss (t : TypeId) (x y : Operand) (k : IntKind) (p q : Int) (b : Bool) (hx : a.eval x = .int k p) (hy : a.eval y = .int k q) (hb : decide (p < q) = b) (hk : K (.bool b) w) : gives P ⟨dst, .binOp .lss t x y yt, ty, pos, aft, gd⟩ a w K :=
  g_val (.bool b) w (by subst hb; simp [execOp, hx, hy, eqGuard, binOp, Op.intCmp]) hk
theorem g_ieq (t : TypeId) (x y : Operand) (k : IntKind) (p q : Int) (b : Bool) (hx : a.eval x = .int k p) (hy : a.eval y = .int k q) (hb : decide (p = q) = b) (hk : K (.bool b) w) : gives P ⟨dst, .binOp .eql t x y yt, ty, pos, aft, gd⟩ a w K :=
  g_val (.bool b) w (by subst hb; simp [execOp, hx, hy, eqGuard, binOp, Op.intCmp]; rfl) hk
theorem g_ine (t : TypeId) (x y : Operand) (k : IntKind) (p q : Int) (b : Bool) (hx : a.eval x = .int k p) (hy : a.eval y = .int k q) (hb : decide (p ≠ q) = b) (hk : K (.bool b) w) : gives P ⟨dst, .binOp .neq t x y yt, ty, pos, aft, gd⟩ a w K :=
  g_val (.bool b) w (by subst hb; simp [execOp, hx, hy, eqGuard, binOp, Op.intCmp]; rfl) hk
theorem g_isub (t : TypeId) (x y : Operand) (k : IntKind) (p q r : Int) (hx : a.eval x = .int k p) (hy : a.eval y = .int k q) (hr : k.wrap (p - q) = r) (hk : K (.int k r) w) : gives P ⟨dst, .binOp .sub t x y yt, ty, pos, aft, gd⟩ a w K :=
  g_val (.int k r) w (by simp [execOp, hx, hy, eqGuard, binOp, Op.intArith, hr]) hk
theorem g_irem (t : TypeId) (x y : Operand) (k : IntKind) (p q r : Int) (hx : a.eval x = .int k p) (hy : a.eval y = .int k q) (hq : q ≠ 0) (hr : p.tmod q = r) (hk : K (.int k r) w) : gives P ⟨dst, .binOp .rem t x y yt, ty, pos, aft, gd⟩ a w K :=
  g_val (.int k r) w (by simp [execOp, hx, hy, eqGuard, binOp, Op.intDiv, hr, hq]) hk
theorem g_unot (t : TypeId) (x : Operand) (b : Bool) (hx : a.eval x = .bool b) (hk : K (.bool (!b)) w) : gives P ⟨dst, .unOp .not t x, ty, pos, aft, gd⟩ a w K :=
  g_val (.bool (!b)) w (by simp [execOp, hx, Op.unary]) hk
theorem g_beql (x y : Operand) (p q : Bool) (hx : a.eval x = .bool p) (hy : a.eval y = .bool q) (hk : K (.bool (p == q)) w) : gives Tryd.prog ⟨dst, .binOp .eql 4 x y yt, ty, pos, aft, gd⟩ a w K := by
  have h := run_equalIn_bool w 9999 4 p q Tryd.underlying4
  exact g_val (.bool (p == q)) w (by simp [execOp, hx, hy, eqGuard, binOp, Op.equal, Op.maxDepth, h]) hk
theorem L_give {o : Oper} (hw : Region.wanted o (yielded ops a.tmps) = true) (h : gives P o a w (fun v w' => wpList P ops Q rest (a.put o.dst v) w')) : wpList P ops Q (o :: rest) a w := by
  unfold wpList; rw [if_pos hw]; exact .inl (wp_of_gives rfl h (fun _ _ h => h))
theorem at_binD {x y : Operand} {b : BinOp} {t yt : TypeId} (d : Tmp) (h : wpList P ops Q (⟨some d, .binOp b t x y yt, ty, pos, aft, gd⟩ :: rest) a w) : wpList P ops Q (⟨some d, .binOp b t x y yt, ty, pos, aft, gd⟩ :: rest) a w := h
theorem at_bld {t : TypeId} {ps : Array (Nat × Operand)} (d : Tmp) (h : wpList P ops Q (⟨some d, .build t ps, ty, pos, aft, gd⟩ :: rest) a w) : wpList P ops Q (⟨some d, .build t ps, ty, pos, aft, gd⟩ :: rest) a w := h
theorem at_boxD {x : Operand} (d : Tmp) (t : TypeId) (h : wpList P ops Q (⟨some d, .box t x, ty, pos, aft, none⟩ :: rest) a w) : wpList P ops Q (⟨some d, .box t x, ty, pos, aft, none⟩ :: rest) a w := h
theorem at_loadD {x : Operand} (d : Tmp) (t : TypeId) (h : wpList P ops Q (⟨some d, .load t x, ty, pos, aft, gd⟩ :: rest) a w) : wpList P ops Q (⟨some d, .load t x, ty, pos, aft, gd⟩ :: rest) a w := h
theorem at_storeX {y : Operand} {dst : Option Tmp} (x : Tmp) (t : TypeId) (h : wpList P ops Q (⟨dst, .store t (.tmp x) y, ty, pos, aft, none⟩ :: rest) a w) : wpList P ops Q (⟨dst, .store t (.tmp x) y, ty, pos, aft, none⟩ :: rest) a w := h
theorem at_cnv {t t' : TypeId} {x : Operand} (d : Tmp) (h : wpList P ops Q (⟨some d, .convert t t' x, ty, pos, aft, gd⟩ :: rest) a w) : wpList P ops Q (⟨some d, .convert t t' x, ty, pos, aft, gd⟩ :: rest) a w := h
theorem at_callD {c : Call} (d : Tmp) (h : wpList P ops Q (⟨some d, .call c, ty, pos, aft, gd⟩ :: rest) a w) : wpList P ops Q (⟨some d, .call c, ty, pos, aft, gd⟩ :: rest) a w := h
theorem at_sliceD {t : TypeId} {x : Operand} {l h m : Option Operand} (d : Tmp) (k : wpList P ops Q (⟨some d, .slice t x l h m, ty, pos, aft, gd⟩ :: rest) a w) : wpList P ops Q (⟨some d, .slice t x l h m, ty, pos, aft, gd⟩ :: rest) a w := k
theorem at_unD {x : Operand} {b : UnOp} {t : TypeId} (d : Tmp) (h : wpList P ops Q (⟨some d, .unOp b t x, ty, pos, aft, gd⟩ :: rest) a w) : wpList P ops Q (⟨some d, .unOp b t x, ty, pos, aft, gd⟩ :: rest) a w := h
theorem gn {o : Oper} (hw : Region.wanted o (yielded ops a.tmps) = false) (h : K undef w) : givesW P ops o a w K := by
  unfold givesW; rw [if_neg (by rw [hw]; decide)]; exact h
theorem run_cell3 (w : World) (b o : Nat) (v : Value) (hc : w.cell? ⟨b, o, none⟩ = some v) (x : Operand) (hx : a.eval x = .pointer (some ⟨b, o, none⟩)) : (execOp a.eval ⟨dst, .load 3 x, ty, pos, aft, gd⟩).run Tryd.prog w = .ok (.value v) w := by
  simp only [execOp, hx]
  go_simp
theorem g_cell3 (x : Operand) (b o : Nat) (v : Value) (hx : a.eval x = .pointer (some ⟨b, o, none⟩)) (hc : w.cell? ⟨b, o, none⟩ = some v) (hk : K v w) : gives Tryd.prog ⟨dst, .load 3 x, ty, pos, aft, gd⟩ a w K :=
  g_val v w (run_cell3 w b o v hc x hx) hk
theorem g_ia (t : TypeId) (x y : Operand) (k : IntKind) (p q r : Int) (hx : a.eval x = .int k p) (hy : a.eval y = .int k q) (hr : k.wrap (p + q) = r) (hk : K (.int k r) w) : gives P ⟨dst, .binOp .add t x y yt, ty, pos, aft, gd⟩ a w K :=
  g_val (.int k r) w (by simp [execOp, hx, hy, eqGuard, binOp, Op.intArith, hr]) hk
theorem at_fldD {t : TypeId} {x : Operand} {i : Nat} (d : Tmp) (h : wpList P ops Q (⟨some d, .field t x i, ty, pos, aft, gd⟩ :: rest) a w) : wpList P ops Q (⟨some d, .field t x i, ty, pos, aft, gd⟩ :: rest) a w := h
theorem g_eqlK (x y : Operand) (k m : Ky) (b : Bool) (hx : a.eval x = .agg (kc k).toArray) (hy : a.eval y = .agg (kc m).toArray) (hb : decide (k.l = m.l) = b) (hk : K (.bool b) w) : gives Tryd.prog ⟨dst, .binOp .eql 23 x y yt, ty, pos, aft, gd⟩ a w K :=
  g_val (.bool b) w (by subst hb; simp only [execOp, hx, hy, Sem.run_bind, run_eqGuard_agg w _ _ _ _ _ _ guard23, run_eql_struct, equalK k m 9998, Result.andThen_ok, Sem.run_pure]) hk
theorem g_neqK (x y : Operand) (k m : Ky) (b : Bool) (hx : a.eval x = .agg (kc k).toArray) (hy : a.eval y = .agg (kc m).toArray) (hb : decide (k.l = m.l) = b) (hk : K (.bool (!b)) w) : gives Tryd.prog ⟨dst, .binOp .neq 23 x y yt, ty, pos, aft, gd⟩ a w K :=
  g_val (.bool (!b)) w (by subst hb; simp only [execOp, hx, hy, Sem.run_bind, run_eqGuard_agg w _ _ _ _ _ _ guard23, run_neq_struct, equalK k m 9998, Result.andThen_ok, Sem.run_pure]) hk
theorem g_eqlM (x y : Operand) (k m : Ky) (p q : Int) (b : Bool) (hx : a.eval x = .agg (mc k p).toArray) (hy : a.eval y = .agg (mc m q).toArray) (hb : decide (k.l = m.l ∧ p = q) = b) (hk : K (.bool b) w) : gives Tryd.prog ⟨dst, .binOp .eql 34 x y yt, ty, pos, aft, gd⟩ a w K :=
  g_val (.bool b) w (by simp only [execOp, hx, hy, Sem.run_bind, run_eqGuard_agg w _ _ _ _ _ _ guardM, run_eql_struct, equalM k m p q b hb, Result.andThen_ok, Sem.run_pure]) hk
theorem g_neqM (x y : Operand) (k m : Ky) (p q : Int) (b : Bool) (hx : a.eval x = .agg (mc k p).toArray) (hy : a.eval y = .agg (mc m q).toArray) (hb : decide (k.l = m.l ∧ p = q) = b) (hk : K (.bool (!b)) w) : gives Tryd.prog ⟨dst, .binOp .neq 34 x y yt, ty, pos, aft, gd⟩ a w K :=
  g_val (.bool (!b)) w (by simp only [execOp, hx, hy, Sem.run_bind, run_eqGuard_agg w _ _ _ _ _ _ guardM, run_neq_struct, equalM k m p q b hb, Result.andThen_ok, Sem.run_pure]) hk
theorem g_bldK0 (hk : K (.agg (kc zk).toArray) w) : gives Tryd.prog ⟨dst, .build 23 #[], ty, pos, aft, gd⟩ a w K :=
  g_val (.agg (kc zk).toArray) w (by simp only [execOp]; go_simp; rfl) hk
theorem g_bldK1 (hk : K (.agg (kc k1).toArray) w) : gives Tryd.prog ⟨dst, .build 23 #[(0, .const (.int .u8 1))], ty, pos, aft, gd⟩ a w K :=
  g_val (.agg (kc k1).toArray) w (by simp only [execOp, List.map_toArray, List.map_cons, List.map_nil]; go_simp; rfl) hk
theorem g_bldM0 (hk : K (.agg (mc zk 0).toArray) w) : gives Tryd.prog ⟨dst, .build 34 #[], ty, pos, aft, gd⟩ a w K :=
  g_val (.agg (mc zk 0).toArray) w (by simp only [execOp]; go_simp; rfl) hk
theorem g_bldM (x y : Operand) (k : Ky) (n : Int) (hx : a.eval x = .agg (kc k).toArray) (hy : a.eval y = .int .i64 n) (hk : K (.agg (mc k n).toArray) w) : gives Tryd.prog ⟨dst, .build 34 #[(0, x), (1, y)], ty, pos, aft, gd⟩ a w K :=
  g_val (.agg (mc k n).toArray) w (by simp only [execOp, hx, hy, List.map_toArray, List.map_cons, List.map_nil]; go_simp; simp only [kc_length, zero_mc, fold_key, mc_set]; simp [mc_length]) hk
theorem g_bldM1 (x : Operand) (k : Ky) (hx : a.eval x = .agg (kc k).toArray) (hk : K (.agg (mc k 0).toArray) w) : gives Tryd.prog ⟨dst, .build 34 #[(0, x)], ty, pos, aft, gd⟩ a w K :=
  g_val (.agg (mc k 0).toArray) w (by simp only [execOp, hx, List.map_toArray, List.map_cons, List.map_nil]; go_simp; simp only [kc_length, zero_mc, fold_key]; simp) hk
theorem g_fM (x : Operand) (b k i : Nat) (hx : a.eval x = .pointer (some ⟨b, 0, none⟩)) (hi : (Instr.fieldAt 34 (.pointer (some ⟨b, 0, none⟩)) i).run Tryd.prog w = .ok (.pointer (some ⟨b, k, none⟩)) w) (hk : K (.pointer (some ⟨b, k, none⟩)) w) : gives Tryd.prog ⟨dst, .fieldAddr 34 x i, ty, pos, aft, gd⟩ a w K :=
  g_val _ w (by simp only [execOp, hx, Sem.run_bind, hi, Result.andThen_ok, Sem.run_pure]) hk
theorem g_ldK (x : Operand) (b : Nat) (k : Ky) (n : Int) (hx : a.eval x = .pointer (some ⟨b, 0, none⟩)) (hb : Blk w b (mc k n) 34) (hk : K (.agg (kc k).toArray) w) : gives Tryd.prog ⟨dst, .load 23 x, ty, pos, aft, gd⟩ a w K :=
  g_load 23 x b 0 32 (mc k n) 34 _ hx hb Tryd.underlying23 rfl size23 (by rw [mc_length]; decide) (kc k) (mc_take k n) hk
theorem g_fldM (x : Operand) (k : Ky) (n : Int) (hx : a.eval x = .agg (mc k n).toArray) (hk : K (.agg (kc k).toArray) w) : gives Tryd.prog ⟨dst, .field 34 x 0, ty, pos, aft, gd⟩ a w K :=
  g_val (.agg (kc k).toArray) w (by have h := partK k n w; simp only [execOp, hx, Instr.field, Sem.run_bind, run_underlying fieldsM, Result.andThen_ok]; simp [flM0, asAgg, h]) hk
theorem g_min (x y : Operand) (p q r : Int) (hx : a.eval x = .int .i64 p) (hy : a.eval y = .int .i64 q) (hr : min p q = r) (hk : K (.int .i64 r) w) : gives Tryd.prog ⟨dst, .call { callee := .builtin .min, args := #[x, y], argTypes := #[3, 3] }, ty, pos, aft, gd⟩ a w K :=
  g_val (.int .i64 r) w (by simp only [execOp, resolve, invoke, builtin, List.map_toArray, List.map_cons, List.map_nil, hx, hy]; go_simp; try exact hr) hk
theorem g_cv_5_3 (x : Operand) (p r : Int) (hx : a.eval x = .int .u8 p) (hr : IntKind.i64.wrap p = r) (hk : K (.int .i64 r) w) : gives Tryd.prog ⟨dst, .convert 5 3 x, ty, pos, aft, gd⟩ a w K :=
  g_val (.int .i64 r) w (by simp only [execOp, hx]; go_simp) hk
theorem g_cv_41_3 (x : Operand) (p r : Int) (hx : a.eval x = .int .u16 p) (hr : IntKind.i64.wrap p = r) (hk : K (.int .i64 r) w) : gives Tryd.prog ⟨dst, .convert 41 3 x, ty, pos, aft, gd⟩ a w K :=
  g_val (.int .i64 r) w (by simp only [execOp, hx]; go_simp) hk
theorem g_slK (x : Operand) (b : Nat) (hx : a.eval x = .pointer (some ⟨b, 0, none⟩)) (hk : K (.slice (some ⟨b, 0, none⟩) 32 32) w) : gives Tryd.prog ⟨dst, .slice 23 x none none none, ty, pos, aft, gd⟩ a w K :=
  g_val _ w (by have h := run_slice_all w b 0 32 23 5 Tryd.underlying23 Tryd.sizeOf5; simp only [execOp, hx, Option.map_none, Sem.run_bind, h, Result.andThen_ok, Sem.run_pure]) hk
theorem g_strK (x : Operand) (b : Nat) (k : Ky) (t : TypeId) (hx : a.eval x = .slice (some ⟨b, 0, none⟩) 32 32) (hb : Blk w b (kc k) t) (hk : K (.string ⟨k.l.toArray⟩) w) : gives Tryd.prog ⟨dst, .convert 44 9 x, ty, pos, aft, gd⟩ a w K :=
  g_val _ w (by have h := blk_all k.l k.len hb; simp only [execOp, hx, Sem.run_bind, h, Result.andThen_ok, Sem.run_pure]) hk
end
theorem results_blk_tmp {fn : Func} {p u : Tmp} {t : TypeId} (hf : fn.results = #[.cell p t, .tmp u]) {a : Act} {w : World} (b : Nat) (cs : List Value) (v : Value) (d : TypeDesc) (hp : a.tmps.getD p undef = .pointer (some ⟨b, 0, none⟩)) (hv : a.tmps.getD u undef = v) (hb : Blk w b cs t)
    (hu : Tryd.prog.underlying t = some d) (hd : d.isRow = true) (hi : (Tryd.prog.info? t).map (·.size) = some cs.length) : (results fn a.tmps).run Tryd.prog w = .ok (.tuple #[.agg cs.toArray, v]) w := by
  have h := run_loadVar_mid (P := Tryd.prog) w b 0 t cs d (by simpa using hb.range 0 cs.length) hu hd hi
  have hp' : a.tmps[p]?.getD undef = .pointer (some ⟨b, 0, none⟩) := by simpa using hp
  have hv' : a.tmps[u]?.getD undef = v := by simpa using hv
  simp [results, hf, asAddr, hp', h, hv']
theorem kf9 (vs : Array Value) (w : World) : (callFunc 9 vs).run Tryd.prog w = .ok (.enter 9 vs) w := by go_simp
theorem kf10 (vs : Array Value) (w : World) : (callFunc 10 vs).run Tryd.prog w = .ok (.enter 10 vs) w := by go_simp
theorem kf11 (vs : Array Value) (w : World) : (callFunc 11 vs).run Tryd.prog w = .ok (.enter 11 vs) w := by go_simp
theorem kf12 (vs : Array Value) (w : World) : (callFunc 12 vs).run Tryd.prog w = .ok (.enter 12 vs) w := by go_simp
theorem kf13 (vs : Array Value) (w : World) : (callFunc 13 vs).run Tryd.prog w = .ok (.enter 13 vs) w := by go_simp
theorem kf14 (vs : Array Value) (w : World) : (callFunc 14 vs).run Tryd.prog w = .ok (.enter 14 vs) w := by go_simp
theorem kf15 (vs : Array Value) (w : World) : (callFunc 15 vs).run Tryd.prog w = .ok (.enter 15 vs) w := by go_simp
theorem kf16 (vs : Array Value) (w : World) : (callFunc 16 vs).run Tryd.prog w = .ok (.enter 16 vs) w := by go_simp
theorem kf17 (vs : Array Value) (w : World) : (callFunc 17 vs).run Tryd.prog w = .ok (.enter 17 vs) w := by go_simp
theorem kf18 (vs : Array Value) (w : World) : (callFunc 18 vs).run Tryd.prog w = .ok (.enter 18 vs) w := by go_simp
theorem kf19 (vs : Array Value) (w : World) : (callFunc 19 vs).run Tryd.prog w = .ok (.enter 19 vs) w := by go_simp
theorem kf20 (vs : Array Value) (w : World) : (callFunc 20 vs).run Tryd.prog w = .ok (.enter 20 vs) w := by go_simp
theorem kf22 (vs : Array Value) (w : World) : (callFunc 22 vs).run Tryd.prog w = .ok (.enter 22 vs) w := by go_simp
theorem kf23 (vs : Array Value) (w : World) : (callFunc 23 vs).run Tryd.prog w = .ok (.enter 23 vs) w := by go_simp
theorem kf25 (vs : Array Value) (w : World) : (callFunc 25 vs).run Tryd.prog w = .ok (.enter 25 vs) w := by go_simp
theorem kf31 (vs : Array Value) (w : World) : (callFunc 31 vs).run Tryd.prog w = .ok (.enter 31 vs) w := by go_simp
end Go.Proofs.YtcenaklbfdhimaaDoor
