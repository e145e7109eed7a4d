/- Keys, marks (33 cells), walkers (3) and the reference's walkers (34) in a walk, and what single operations on them yield. -/
import Derived.Test.YtcclcemdodoiiaaGreatDoorQChMath
import Derived.Test.YtcclcemdodoiiaaGreatDoorQMacA
import Derived.Test.YtcclcemdodoiiaaGreatDoorQRefB
import Derived.Test.YtcclcemdodoiiaaGreatDoorQLib
import Derived.Laws.StructEq
namespace Go.Proofs.YtcclcemdodoiiaaGreatDoor
set_option maxRecDepth 10000
open Go Go.RowKit
set_option linter.unusedVariables false
set_option linter.unusedSimpArgs false
/-- A key as the program's array. -/
def kc (k : Ky) : List Value := bc k.l
/-- A mark: which key, and the key. -/
def mk (p : Int) (k : Ky) : List Value := .int .i64 p :: bc k.l
/-- A walker: which key is next, one behind the last one, what it minds. -/
def wc (a e : Int) (v : Value) : List Value := [.int .i64 a, .int .i64 e, v]
theorem kc_length (k : Ky) : (kc k).length = 32 := by rw [kc, bc_length, k.len]
theorem mk_length (p : Int) (k : Ky) : (mk p k).length = 33 := by rw [mk, List.length_cons, bc_length, k.len]
theorem one_kc (k : Ky) : ∀ v ∈ kc k, v.oneCell' = true := bc_one _
theorem one_mk (p : Int) (k : Ky) : ∀ v ∈ mk p k, v.oneCell' = true := by
  intro v hv
  rcases List.mem_cons.1 hv with rfl | h
  · rfl
  · exact bc_one _ v h
theorem szK (k : Ky) : (Tryz.prog.info? 23).map (·.size) = some (kc k).length := zk23 k.l k.len
theorem szMk (p : Int) (k : Ky) : (Tryz.prog.info? 142).map (·.size) = some (mk p k).length := by
  have h : (Tryz.prog.info? 142).map (·.size) = some 33 := by kernel_rfl
  rw [mk_length]; exact h
theorem size3 : (Tryz.prog.info? 3).map (·.size) = some 1 := by kernel_rfl
theorem sizeMs : (Tryz.prog.info? 143).map (·.size) = some 1 := by kernel_rfl
theorem zeroK : ∀ w, (zeroValue 23).run Tryz.prog w = .ok (.agg (kc zk).toArray) w := zero23
theorem zeroMk : ∀ w, (zeroValue 142).run Tryz.prog w = .ok (.agg (mk 0 zk).toArray) w := by
  intro w; kernel_rfl
theorem kk_len (k m : Ky) : (kc k).length = (kc m).length := by rw [kc_length, kc_length]
theorem mm_len (k m : Ky) (n p : Int) : (mk n k).length = (mk p m).length := by rw [mk_length, mk_length]
theorem mk_at (p : Int) (k : Ky) : (mk p k)[0]? = some (.int .i64 p) := rfl
theorem mk_key (p : Int) (k : Ky) : ((mk p k).drop 1).take 32 = kc k := by
  have h : (bc k.l).length = 32 := by rw [bc_length, k.len]
  rw [mk, List.drop_succ_cons, List.drop_zero, List.take_of_length_le (by omega)]; rfl
theorem fieldsMk : Tryz.prog.underlying 142 = some (.struct (Tryz.prog.fieldsOf 142)) := by kernel_rfl
theorem flMk0 : ((Tryz.prog.fieldsOf 142)[1]?).map (fun f => (f.type, f.offset)) = some (23, 1) := by kernel_rfl
theorem flMk1 : ∃ f, (Tryz.prog.fieldsOf 142)[1]? = some f ∧ f.type = 23 ∧ f.offset = 1 := by
  have h := flMk0
  cases hf : (Tryz.prog.fieldsOf 142)[1]? with
  | none => rw [hf] at h; cases h
  | some f =>
    rw [hf] at h
    simp only [Option.map_some, Option.some.injEq, Prod.mk.injEq] at h
    exact ⟨f, rfl, h.1, h.2⟩
theorem Ms.tabs {w0 w : World} {L : List HP} (hM : Ms w0 w L) (hT : Tabs w0) : Tabs w := hT.below hM.below hT.size
theorem equalK (k m : Ky) (d : Nat) (w : World) : (Op.equalIn (d + 1 + 1) 23 (.agg (kc k).toArray) (.agg (kc m).toArray)).run Tryz.prog w = .ok (decide (k.l = m.l)) w := by
  rw [Op.equalIn]
  simp only [Sem.run_bind, run_underlying Tryz.underlying23, Result.andThen_ok, Tryz.sizeOf5, Std.Legacy.Range.forIn_eq_forIn_range', Std.Legacy.Range.size, Nat.sub_zero, Nat.add_sub_cancel, Nat.div_one]
  unfold kc
  rw [equal_loop 5 d Tryz.underlying5 Tryz.isAgg5 k.l m.l (by rw [k.len, m.len]) w 32 0 (by rw [k.len])]
  by_cases hc : k.l = m.l <;> simp [hc]
theorem fold_set : ∀ (l : List Value) (i : Nat) (pre post : List Value), pre.length = i → l.length ≤ post.length → (l.zipIdx i).foldl (fun (cs : Array Value) (x : Value × Nat) => cs.setIfInBounds x.snd x.fst) (pre ++ post).toArray = (pre ++ l ++ post.drop l.length).toArray
  | [], i, pre, post, _, _ => by simp
  | v :: l, i, pre, [], h1, h2 => by simp at h2
  | v :: l, i, pre, p :: post, h1, h2 => by
    have ih := fold_set l (i + 1) (pre ++ [v]) post (by simp [h1]) (by simpa using h2)
    rw [List.zipIdx_cons, List.foldl_cons]
    have e : (pre ++ p :: post).toArray.setIfInBounds i v = (pre ++ [v] ++ post).toArray := by
      subst h1
      simp
    rw [e, ih]
    simp
theorem partMk (p : Int) (k : Ky) (w : World) : (part 23 (mk p k).toArray 1).run Tryz.prog w = .ok (.agg (kc k).toArray) w := by
  have h : ((mk p k).toArray.extract 1 (1 + 32)) = (kc k).toArray := by
    apply Array.toList_inj.1
    rw [Array.toList_extract, List.extract_eq_take_drop]
    exact mk_key p k
  simp only [part, Sem.run_bind, Tryz.isAgg23, Tryz.sizeOf23, Result.andThen_ok, if_true, Sem.run_pure, h]
theorem mkz (p : Int) : #[.int .i64 p, .int .u8 0, .int .u8 0, .int .u8 0, .int .u8 0, .int .u8 0, .int .u8 0, .int .u8 0, .int .u8 0, .int .u8 0, .int .u8 0, .int .u8 0, .int .u8 0, .int .u8 0, .int .u8 0, .int .u8 0, .int .u8 0, .int .u8 0, .int .u8 0, .int .u8 0, .int .u8 0, .int .u8 0, .int .u8 0, .int .u8 0, .int .u8 0, .int .u8 0, .int .u8 0, .int .u8 0, .int .u8 0, .int .u8 0, .int .u8 0, .int .u8 0, .int .u8 0] = (mk p zk).toArray := rfl
theorem fold_at (l : List Value) (k : Nat) (pre mid post : List Value) (hp : pre.length = k) (hl : l.length = mid.length) : l.zipIdx.foldl (fun (cs : Array Value) (x : Value × Nat) => cs.setIfInBounds (k + x.snd) x.fst) (pre ++ mid ++ post).toArray = (pre ++ l ++ post).toArray := by
  have key : ∀ (l mid : List Value) (i : Nat) (pre : List Value), pre.length = k + i → l.length = mid.length → (l.zipIdx i).foldl (fun (cs : Array Value) (x : Value × Nat) => cs.setIfInBounds (k + x.snd) x.fst) (pre ++ mid ++ post).toArray = (pre ++ l ++ post).toArray := by
    intro l
    induction l with
    | nil =>
      intro mid i pre _ h2
      have : mid = [] := List.eq_nil_of_length_eq_zero (by simpa using h2.symm)
      subst this; simp
    | cons v l ih =>
      intro mid i pre h1 h2
      cases mid with
      | nil => simp at h2
      | cons m mid =>
        rw [List.zipIdx_cons, List.foldl_cons]
        have e : (pre ++ m :: mid ++ post).toArray.setIfInBounds (k + i) v = (pre ++ [v] ++ mid ++ post).toArray := by
          rw [← h1]; simp
        rw [e, ih mid (i + 1) (pre ++ [v]) (by simp [h1]; omega) (by simpa using h2)]
        simp
  exact key l mid 0 pre (by omega) hl
theorem fold_mk (p q : Int) (k m : Ky) : (kc k).zipIdx.foldl (fun (cs : Array Value) (x : Value × Nat) => cs.setIfInBounds (1 + x.snd) x.fst) (mk p m).toArray = (mk p k).toArray := by
  have h := fold_at (kc k) 1 [.int .i64 p] (kc m) [] rfl (kk_len _ _)
  simpa [mk, kc] using h
section
variable {P : Program} {ops : Array Oper} {rest : List Oper} {a : Act} {w : World} {Q : Exit → Act → World → Prop} {dst : Option Tmp} {ty yt : TypeId} {pos : String} {aft : Array Edge} {gd : Option (Nat × Bool)} {K : Value → World → Prop}
theorem g_eqlK (x y : Operand) (k m : Ky) (b : Bool) (hx : a.eval x = .agg (kc k).toArray) (hy : a.eval y = .agg (kc m).toArray) (hb : decide (k.l = m.l) = b) (hk : K (.bool b) w) : gives Tryz.prog ⟨dst, .binOp .eql 23 x y yt, ty, pos, aft, gd⟩ a w K :=
  g_val (.bool b) w (by subst hb; simp only [execOp, hx, hy, Sem.run_bind, run_eqGuard_agg w _ _ _ _ _ _ guard23, run_eql_struct, equalK k m 9998, Result.andThen_ok, Sem.run_pure]) hk
theorem g_neqK (x y : Operand) (k m : Ky) (b : Bool) (hx : a.eval x = .agg (kc k).toArray) (hy : a.eval y = .agg (kc m).toArray) (hb : decide (k.l = m.l) = b) (hk : K (.bool (!b)) w) : gives Tryz.prog ⟨dst, .binOp .neq 23 x y yt, ty, pos, aft, gd⟩ a w K :=
  g_val (.bool (!b)) w (by subst hb; simp only [execOp, hx, hy, Sem.run_bind, run_eqGuard_agg w _ _ _ _ _ _ guard23, run_neq_struct, equalK k m 9998, Result.andThen_ok, Sem.run_pure]) hk
theorem g_bldK0 (hk : K (.agg (kc zk).toArray) w) : gives Tryz.prog ⟨dst, .build 23 #[], ty, pos, aft, gd⟩ a w K :=
  g_val (.agg (kc zk).toArray) w (by simp only [execOp]; go_simp; rfl) hk
theorem g_bldK1 (hk : K (.agg (kc k1).toArray) w) : gives Tryz.prog ⟨dst, .build 23 #[(0, .const (.int .u8 1))], ty, pos, aft, gd⟩ a w K :=
  g_val (.agg (kc k1).toArray) w (by simp only [execOp, List.map_toArray, List.map_cons, List.map_nil]; go_simp; rfl) hk
theorem g_min (x y : Operand) (p q r : Int) (hx : a.eval x = .int .i64 p) (hy : a.eval y = .int .i64 q) (hr : min p q = r) (hk : K (.int .i64 r) w) : gives Tryz.prog ⟨dst, .call { callee := .builtin .min, args := #[x, y], argTypes := #[3, 3] }, ty, pos, aft, gd⟩ a w K :=
  g_val (.int .i64 r) w (by simp only [execOp, resolve, invoke, builtin, List.map_toArray, List.map_cons, List.map_nil, hx, hy]; go_simp; try exact hr) hk
theorem g_slK (x : Operand) (b : Nat) (hx : a.eval x = .pointer (some ⟨b, 0, none⟩)) (hk : K (.slice (some ⟨b, 0, none⟩) 32 32) w) : gives Tryz.prog ⟨dst, .slice 23 x none none none, ty, pos, aft, gd⟩ a w K :=
  g_val _ w (by have h := run_slice_all w b 0 32 23 5 Tryz.underlying23 Tryz.sizeOf5; simp only [execOp, hx, Option.map_none, Sem.run_bind, h, Result.andThen_ok, Sem.run_pure]) hk
theorem g_strK (x : Operand) (b : Nat) (k : Ky) (t : TypeId) (hx : a.eval x = .slice (some ⟨b, 0, none⟩) 32 32) (hb : Blk w b (kc k) t) (hk : K (.string ⟨k.l.toArray⟩) w) : gives Tryz.prog ⟨dst, .convert 60 9 x, ty, pos, aft, gd⟩ a w K :=
  g_val _ w (by have h := blk_all k.l k.len hb; simp only [execOp, hx, Sem.run_bind, h, Result.andThen_ok, Sem.run_pure]) hk
theorem g_nK (x y : Operand) (k m : Ky) (b r : Bool) (hx : a.eval x = .agg (kc k).toArray) (hy : a.eval y = .agg (kc m).toArray) (hb : decide (k.l = m.l) = b) (hr : (!b) = r) (hk : K (.bool r) w) : gives Tryz.prog ⟨dst, .binOp .neq 23 x y yt, ty, pos, aft, gd⟩ a w K :=
  g_neqK x y k m b hx hy hb (by subst hr; exact hk)
theorem g_max (x y : Operand) (p q r : Int) (hx : a.eval x = .int .i64 p) (hy : a.eval y = .int .i64 q) (hr : max p q = r) (hk : K (.int .i64 r) w) : gives Tryz.prog ⟨dst, .call { callee := .builtin .max, args := #[x, y], argTypes := #[3, 3] }, ty, pos, aft, gd⟩ a w K :=
  g_val (.int .i64 r) w (by simp only [execOp, resolve, invoke, builtin, List.map_toArray, List.map_cons, List.map_nil, hx, hy]; go_simp; try exact hr) hk
theorem ld3 (w : World) (b o : Nat) (v : Value) (hc : w.cell? ⟨b, o, none⟩ = some v) : (Instr.loadAt 3 (.pointer (some ⟨b, o, none⟩))).run Tryz.prog w = .ok v w := by go_simp
theorem ldMs (w : World) (b o : Nat) (v : Value) (hc : w.cell? ⟨b, o, none⟩ = some v) : (Instr.loadAt 143 (.pointer (some ⟨b, o, none⟩))).run Tryz.prog w = .ok v w := by go_simp
theorem ld4 (w : World) (b o : Nat) (v : Value) (hc : w.cell? ⟨b, o, none⟩ = some v) : (Instr.loadAt 4 (.pointer (some ⟨b, o, none⟩))).run Tryz.prog w = .ok v w := by go_simp
theorem faW0 (w : World) (b : Nat) : (Instr.fieldAt 145 (.pointer (some ⟨b, 0, none⟩)) 0).run Tryz.prog w = .ok (.pointer (some ⟨b, 0, none⟩)) w := by go_simp
theorem faW1 (w : World) (b : Nat) : (Instr.fieldAt 145 (.pointer (some ⟨b, 0, none⟩)) 1).run Tryz.prog w = .ok (.pointer (some ⟨b, 1, none⟩)) w := by go_simp
theorem faW2 (w : World) (b : Nat) : (Instr.fieldAt 145 (.pointer (some ⟨b, 0, none⟩)) 2).run Tryz.prog w = .ok (.pointer (some ⟨b, 2, none⟩)) w := by go_simp
theorem faM0 (w : World) (b o : Nat) : (Instr.fieldAt 142 (.pointer (some ⟨b, o, none⟩)) 0).run Tryz.prog w = .ok (.pointer (some ⟨b, o, none⟩)) w := by go_simp
theorem faM1 (w : World) (b o : Nat) : (Instr.fieldAt 142 (.pointer (some ⟨b, o, none⟩)) 1).run Tryz.prog w = .ok (.pointer (some ⟨b, o + 1, none⟩)) w := by go_simp
theorem g_fldMk (x : Operand) (p : Int) (k : Ky) (hx : a.eval x = .agg (mk p k).toArray) (hk : K (.agg (kc k).toArray) w) : gives Tryz.prog ⟨dst, .field 142 x 1, ty, pos, aft, gd⟩ a w K :=
  g_val (.agg (kc k).toArray) w (by obtain ⟨f, h1, h2, h3⟩ := flMk1; have h := partMk p k w; simp only [execOp, hx, Instr.field, Sem.run_bind, run_underlying fieldsMk, Result.andThen_ok]; simp [h1, h2, h3, asAgg, h]) hk
theorem g_bldMk (x y : Operand) (p : Int) (k : Ky) (hx : a.eval x = .int .i64 p) (hy : a.eval y = .agg (kc k).toArray) (hk : K (.agg (mk p k).toArray) w) : gives Tryz.prog ⟨dst, .build 142 #[(0, x), (1, y)], ty, pos, aft, gd⟩ a w K :=
  g_val (.agg (mk p k).toArray) w (by
    simp only [execOp, hx, hy, List.map_toArray, List.map_cons, List.map_nil]; go_simp; simp only [kc_length, mkz, fold_mk p 0]; simp [mk_length, mkz, fold_mk p 0]) hk
theorem g_bldW (x y : Operand) (e : Int) (v : Value) (ao : Option Addr) (n c : Nat) (hv : v = .slice ao n c) (hx : a.eval x = .int .i64 e) (hy : a.eval y = v) (hk : K (.agg (wc 0 e v).toArray) w) : gives Tryz.prog ⟨dst, .build 145 #[(1, x), (2, y)], ty, pos, aft, gd⟩ a w K :=
  g_val (.agg (wc 0 e v).toArray) w (by subst hv; simp only [execOp, hx, hy, List.map_toArray, List.map_cons, List.map_nil]; go_simp; rfl) hk
theorem g_len (x : Operand) (t e : TypeId) (ao : Option Addr) (n cap : Nat) (r : Int) (ht : Tryz.prog.underlying t = some (.slice e)) (hx : a.eval x = .slice ao n cap) (hr : (n : Int) = r) (hk : K (.int .i64 r) w) : gives Tryz.prog ⟨dst, .call { callee := .builtin .len, args := #[x], argTypes := #[t] }, ty, pos, aft, gd⟩ a w K :=
  g_val (.int .i64 r) w (by subst hr; simp only [execOp, resolve, invoke, builtin, List.map_toArray, List.map_cons, List.map_nil, hx]; go_simp) hk
theorem run_ix (t e : TypeId) (size : Nat) (ht : Tryz.prog.underlying t = some (.slice e)) (hs : ∀ w, (sizeOf e).run Tryz.prog w = .ok size w) (w : World) (b o n cap j : Nat) (h : j < n) : (Instr.indexAt t (.slice (some ⟨b, o, none⟩) n cap) (.int .i64 j)).run Tryz.prog w = .ok (.pointer (some ⟨b, o + j * size, none⟩)) w := by
  have h1 : (j : Int) < (n : Int) := by omega
  simp [Instr.indexAt, asIntOf, run_underlying ht, hs, h1, Addr.add_mid]
  intro hc; omega
theorem g_ix (x y : Operand) (t e : TypeId) (size : Nat) (ht : Tryz.prog.underlying t = some (.slice e)) (hs : ∀ w, (sizeOf e).run Tryz.prog w = .ok size w) (b o n cap j o' : Nat) (i : Int) (hx : a.eval x = .slice (some ⟨b, o, none⟩) n cap) (hy : a.eval y = .int .i64 i) (hi : i = j) (h : j < n) (ho : o + j * size = o') (hk : K (.pointer (some ⟨b, o', none⟩)) w) : gives Tryz.prog ⟨dst, .indexAddr t x y, ty, pos, aft, gd⟩ a w K :=
  g_val _ w (by subst hi; subst ho; simp only [execOp, hx, hy, Sem.run_bind, run_ix t e size ht hs w b o n cap j h, Result.andThen_ok, Sem.run_pure]) hk
theorem szof142 : ∀ w, (sizeOf 142).run Tryz.prog w = .ok 33 w := by intro w; kernel_rfl
theorem szof23 : ∀ w, (sizeOf 23).run Tryz.prog w = .ok 32 w := by intro w; kernel_rfl
theorem add0 (p : Addr) : p.add 0 = p := by unfold Addr.add; split <;> simp_all
/-- 's[:c:c]'. -/
theorem run_cut (w : World) (ao : Option Addr) (n cap c : Nat) (h1 : c ≤ cap) : (Instr.sliceAt 143 (.slice ao n cap) none (some (.int .i64 c)) (some (.int .i64 c))).run Tryz.prog w = .ok (.slice ao c c) w := by
  by_cases hc : c = 0
  · subst hc; cases ao <;> simp [Instr.sliceAt, Instr.slice, run_underlying Tryz.underlying143, Instr.sliceBounds, run_sliceBound, szof142]
  · cases ao <;> simp [Instr.sliceAt, Instr.slice, run_underlying Tryz.underlying143, Instr.sliceBounds, run_sliceBound, szof142, h1, add0, hc]
theorem g_cut (x p q : Operand) (ao : Option Addr) (n cap c : Nat) (i : Int) (hx : a.eval x = .slice ao n cap) (hp : a.eval p = .int .i64 i) (hq : a.eval q = .int .i64 i) (hi : i = c) (h1 : c ≤ cap) (hk : K (.slice ao c c) w) : gives Tryz.prog ⟨dst, .slice 143 x none (some p) (some q), ty, pos, aft, gd⟩ a w K :=
  g_val _ w (by subst hi; simp only [execOp, hx, Option.map_none, Option.map_some, hp, hq, Sem.run_bind, run_cut w ao n cap c h1, Result.andThen_ok, Sem.run_pure]) hk
end
theorem run_bs (t e size : Nat) (zs : List Value) (ht : Tryz.prog.underlying t = some (.slice e)) (hs : ∀ w, (sizeOf e).run Tryz.prog w = .ok size w) (hz : ∀ w, (zeroValue e).run Tryz.prog w = .ok (.agg zs.toArray) w) (h0 : 0 < size) (h1 : size ≤ 1000) (w : World) (cs : List Value) (hc : cs.length = size) :
    (Instr.buildSlice t 1 #[(0, .agg cs.toArray)]).run Tryz.prog w = .ok (.slice (some ⟨w.heap.size, 0, none⟩) 1 1) (w.alloc (.cells cs.toArray e)) := by
  have hn : ¬ (16777216 < size) := by omega
  have h0' : size ≠ 0 := by omega
  obtain ⟨mid, hmid⟩ : ∃ mid : List Value, Array.map (fun x => zs[x % zs.length]?.getD default) (Array.range size) = mid.toArray := ⟨_, (Array.toArray_toList (xs := _)).symm⟩
  have hml : mid.length = size := by
    have := congrArg Array.size hmid
    simpa using this.symm
  have hf := fold_at cs 0 [] mid [] rfl (by omega)
  simp only [List.nil_append, List.append_nil, Nat.zero_add] at hf
  simp [Instr.buildSlice, run_underlying ht, hs, hz, Instr.fill, Value.cells, hc, hn, h0', newRow]
  rw [hmid, hf]
theorem results_blk_tmp {fn : Func} {p u : Tmp} {t : TypeId} (hf : fn.results = #[.cell p t, .tmp u]) {a : Act} {w : World} (b : Nat) (cs : List Value) (v : Value) (d : TypeDesc) (hp : a.tmps.getD p undef = .pointer (some ⟨b, 0, none⟩)) (hv : a.tmps.getD u undef = v) (hb : Blk w b cs t)
    (hu : Tryz.prog.underlying t = some d) (hd : d.isRow = true) (hi : (Tryz.prog.info? t).map (·.size) = some cs.length) : (results fn a.tmps).run Tryz.prog w = .ok (.tuple #[.agg cs.toArray, v]) w := by
  have h := run_loadVar_mid (P := Tryz.prog) w b 0 t cs d (by simpa using hb.range 0 cs.length) hu hd hi
  have hp' : a.tmps[p]?.getD undef = .pointer (some ⟨b, 0, none⟩) := by simpa using hp
  have hv' : a.tmps[u]?.getD undef = v := by simpa using hv
  simp [results, hf, asAddr, hp', h, hv']
theorem kf10 (vs : Array Value) (w : World) : (callFunc 10 vs).run Tryz.prog w = .ok (.enter 10 vs) w := by go_simp
theorem kf11 (vs : Array Value) (w : World) : (callFunc 11 vs).run Tryz.prog w = .ok (.enter 11 vs) w := by go_simp
theorem kf12 (vs : Array Value) (w : World) : (callFunc 12 vs).run Tryz.prog w = .ok (.enter 12 vs) w := by go_simp
theorem kf15 (vs : Array Value) (w : World) : (callFunc 15 vs).run Tryz.prog w = .ok (.enter 15 vs) w := by go_simp
theorem kf18 (vs : Array Value) (w : World) : (callFunc 18 vs).run Tryz.prog w = .ok (.enter 18 vs) w := by go_simp
theorem kf21 (vs : Array Value) (w : World) : (callFunc 21 vs).run Tryz.prog w = .ok (.enter 21 vs) w := by go_simp
theorem kf22 (vs : Array Value) (w : World) : (callFunc 22 vs).run Tryz.prog w = .ok (.enter 22 vs) w := by go_simp
theorem kf23 (vs : Array Value) (w : World) : (callFunc 23 vs).run Tryz.prog w = .ok (.enter 23 vs) w := by go_simp
theorem kf25 (vs : Array Value) (w : World) : (callFunc 25 vs).run Tryz.prog w = .ok (.enter 25 vs) w := by go_simp
theorem kf26 (vs : Array Value) (w : World) : (callFunc 26 vs).run Tryz.prog w = .ok (.enter 26 vs) w := by go_simp
theorem kf27 (vs : Array Value) (w : World) : (callFunc 27 vs).run Tryz.prog w = .ok (.enter 27 vs) w := by go_simp
theorem kf28 (vs : Array Value) (w : World) : (callFunc 28 vs).run Tryz.prog w = .ok (.enter 28 vs) w := by go_simp
theorem kf29 (vs : Array Value) (w : World) : (callFunc 29 vs).run Tryz.prog w = .ok (.enter 29 vs) w := by go_simp
theorem kf30 (vs : Array Value) (w : World) : (callFunc 30 vs).run Tryz.prog w = .ok (.enter 30 vs) w := by go_simp
theorem kf32 (vs : Array Value) (w : World) : (callFunc 32 vs).run Tryz.prog w = .ok (.enter 32 vs) w := by go_simp
theorem kf33 (vs : Array Value) (w : World) : (callFunc 33 vs).run Tryz.prog w = .ok (.enter 33 vs) w := by go_simp
theorem kf36 (vs : Array Value) (w : World) : (callFunc 36 vs).run Tryz.prog w = .ok (.enter 36 vs) w := by go_simp
theorem kf37 (vs : Array Value) (w : World) : (callFunc 37 vs).run Tryz.prog w = .ok (.enter 37 vs) w := by go_simp
theorem kf42 (vs : Array Value) (w : World) : (callFunc 42 vs).run Tryz.prog w = .ok (.enter 42 vs) w := by go_simp
theorem kf43 (vs : Array Value) (w : World) : (callFunc 43 vs).run Tryz.prog w = .ok (.enter 43 vs) w := by go_simp
theorem kf44 (vs : Array Value) (w : World) : (callFunc 44 vs).run Tryz.prog w = .ok (.enter 44 vs) w := by go_simp
theorem kf48 (vs : Array Value) (w : World) : (callFunc 48 vs).run Tryz.prog w = .ok (.enter 48 vs) w := by go_simp
theorem kf49 (vs : Array Value) (w : World) : (callFunc 49 vs).run Tryz.prog w = .ok (.enter 49 vs) w := by go_simp
theorem kf50 (vs : Array Value) (w : World) : (callFunc 50 vs).run Tryz.prog w = .ok (.enter 50 vs) w := by go_simp
theorem kf51 (vs : Array Value) (w : World) : (callFunc 51 vs).run Tryz.prog w = .ok (.enter 51 vs) w := by go_simp
theorem kf52 (vs : Array Value) (w : World) : (callFunc 52 vs).run Tryz.prog w = .ok (.enter 52 vs) w := by go_simp
theorem kf53 (vs : Array Value) (w : World) : (callFunc 53 vs).run Tryz.prog w = .ok (.enter 53 vs) w := by go_simp
theorem kf54 (vs : Array Value) (w : World) : (callFunc 54 vs).run Tryz.prog w = .ok (.enter 54 vs) w := by go_simp
theorem kf55 (vs : Array Value) (w : World) : (callFunc 55 vs).run Tryz.prog w = .ok (.enter 55 vs) w := by go_simp
theorem kf56 (vs : Array Value) (w : World) : (callFunc 56 vs).run Tryz.prog w = .ok (.enter 56 vs) w := by go_simp
theorem kf57 (vs : Array Value) (w : World) : (callFunc 57 vs).run Tryz.prog w = .ok (.enter 57 vs) w := by go_simp
theorem kf58 (vs : Array Value) (w : World) : (callFunc 58 vs).run Tryz.prog w = .ok (.enter 58 vs) w := by go_simp
theorem kf60 (vs : Array Value) (w : World) : (callFunc 60 vs).run Tryz.prog w = .ok (.enter 60 vs) w := by go_simp
theorem kf61 (vs : Array Value) (w : World) : (callFunc 61 vs).run Tryz.prog w = .ok (.enter 61 vs) w := by go_simp
theorem kf62 (vs : Array Value) (w : World) : (callFunc 62 vs).run Tryz.prog w = .ok (.enter 62 vs) w := by go_simp
theorem kf63 (vs : Array Value) (w : World) : (callFunc 63 vs).run Tryz.prog w = .ok (.enter 63 vs) w := by go_simp
theorem kf66 (vs : Array Value) (w : World) : (callFunc 66 vs).run Tryz.prog w = .ok (.enter 66 vs) w := by go_simp
theorem kf67 (vs : Array Value) (w : World) : (callFunc 67 vs).run Tryz.prog w = .ok (.enter 67 vs) w := by go_simp
theorem kf68 (vs : Array Value) (w : World) : (callFunc 68 vs).run Tryz.prog w = .ok (.enter 68 vs) w := by go_simp
theorem kf69 (vs : Array Value) (w : World) : (callFunc 69 vs).run Tryz.prog w = .ok (.enter 69 vs) w := by go_simp
theorem kf71 (vs : Array Value) (w : World) : (callFunc 71 vs).run Tryz.prog w = .ok (.enter 71 vs) w := by go_simp
theorem kf72 (vs : Array Value) (w : World) : (callFunc 72 vs).run Tryz.prog w = .ok (.enter 72 vs) w := by go_simp
theorem kf73 (vs : Array Value) (w : World) : (callFunc 73 vs).run Tryz.prog w = .ok (.enter 73 vs) w := by go_simp
theorem kf74 (vs : Array Value) (w : World) : (callFunc 74 vs).run Tryz.prog w = .ok (.enter 74 vs) w := by go_simp
theorem kf75 (vs : Array Value) (w : World) : (callFunc 75 vs).run Tryz.prog w = .ok (.enter 75 vs) w := by go_simp
theorem kf76 (vs : Array Value) (w : World) : (callFunc 76 vs).run Tryz.prog w = .ok (.enter 76 vs) w := by go_simp
theorem kf77 (vs : Array Value) (w : World) : (callFunc 77 vs).run Tryz.prog w = .ok (.enter 77 vs) w := by go_simp
theorem kf78 (vs : Array Value) (w : World) : (callFunc 78 vs).run Tryz.prog w = .ok (.enter 78 vs) w := by go_simp
theorem kf79 (vs : Array Value) (w : World) : (callFunc 79 vs).run Tryz.prog w = .ok (.enter 79 vs) w := by go_simp
theorem kf80 (vs : Array Value) (w : World) : (callFunc 80 vs).run Tryz.prog w = .ok (.enter 80 vs) w := by go_simp
theorem kf81 (vs : Array Value) (w : World) : (callFunc 81 vs).run Tryz.prog w = .ok (.enter 81 vs) w := by go_simp
theorem kf87 (vs : Array Value) (w : World) : (callFunc 87 vs).run Tryz.prog w = .ok (.enter 87 vs) w := by go_simp
theorem kf88 (vs : Array Value) (w : World) : (callFunc 88 vs).run Tryz.prog w = .ok (.enter 88 vs) w := by go_simp
theorem kf90 (vs : Array Value) (w : World) : (callFunc 90 vs).run Tryz.prog w = .ok (.enter 90 vs) w := by go_simp
theorem kf91 (vs : Array Value) (w : World) : (callFunc 91 vs).run Tryz.prog w = .ok (.enter 91 vs) w := by go_simp
theorem kf92 (vs : Array Value) (w : World) : (callFunc 92 vs).run Tryz.prog w = .ok (.enter 92 vs) w := by go_simp
theorem kf93 (vs : Array Value) (w : World) : (callFunc 93 vs).run Tryz.prog w = .ok (.enter 93 vs) w := by go_simp
theorem kf94 (vs : Array Value) (w : World) : (callFunc 94 vs).run Tryz.prog w = .ok (.enter 94 vs) w := by go_simp
theorem kf95 (vs : Array Value) (w : World) : (callFunc 95 vs).run Tryz.prog w = .ok (.enter 95 vs) w := by go_simp
theorem kf98 (vs : Array Value) (w : World) : (callFunc 98 vs).run Tryz.prog w = .ok (.enter 98 vs) w := by go_simp
theorem kf99 (vs : Array Value) (w : World) : (callFunc 99 vs).run Tryz.prog w = .ok (.enter 99 vs) w := by go_simp
theorem kf100 (vs : Array Value) (w : World) : (callFunc 100 vs).run Tryz.prog w = .ok (.enter 100 vs) w := by go_simp
theorem kf102 (vs : Array Value) (w : World) : (callFunc 102 vs).run Tryz.prog w = .ok (.enter 102 vs) w := by go_simp
theorem kf113 (vs : Array Value) (w : World) : (callFunc 113 vs).run Tryz.prog w = .ok (.enter 113 vs) w := by go_simp
end Go.Proofs.YtcclcemdodoiiaaGreatDoor
