/- Whole blocks of memory (arrays and structs by value) in a walk: each law is that of one operation, over any program. -/
import Derived.Deep.MidRow
import Derived.Below
import Derived.Tactics2
import Derived.Laws.Slices
namespace Go.Proofs.Ytpkjocibgmjhdaa
set_option maxRecDepth 10000
open Go Go.RowKit
variable {P : Program}
/-- Block b holds these cells; none is frozen. -/
def Blk (w : World) (b : Nat) (cs : List Value) (t : TypeId) : Prop := w.heap[b]? = some (.cells cs.toArray t (0, 0))
/-- All but block b is as it was. -/
structure Turn (b : Nat) (w w' : World) : Prop where
  os : w'.os = w.os
  tape : w'.tape = w.tape
  output : w'.output = w.output
  size : w.heap.size ≤ w'.heap.size
  block : ∀ k, k ≠ b → w'.heap[k]? = w.heap[k]?
theorem Turn.below {B b : Nat} {w0 w w' : World} (h : Turn b w w') (hb : Below B w0 w) (hB : B ≤ b) : Below B w0 w' :=
  hb.trans ⟨h.os, h.tape, h.output, h.size, fun k hk => h.block k (by omega)⟩
theorem Turn.blk {b c : Nat} {w w' : World} {cs : List Value} {t : TypeId} (h : Turn b w w') (hc : Blk w c cs t) (hn : c ≠ b) : Blk w' c cs t := by
  unfold Blk; rw [h.block c hn]; exact hc
theorem Blk.lt {w : World} {b : Nat} {cs : List Value} {t : TypeId} (h : Blk w b cs t) : b < w.heap.size := by
  unfold Blk at h
  exact (Array.getElem?_eq_some_iff.1 h).1
theorem Blk.below {B b : Nat} {w w' : World} {cs : List Value} {t : TypeId} (h : Blk w b cs t) (hb : Below B w w') (hB : b < B) : Blk w' b cs t := by
  unfold Blk; rw [hb.block b hB]; exact h
theorem Blk.at {w : World} {b : Nat} {cs : List Value} {t : TypeId} (h : Blk w b cs t) (o : Nat) : w.cell? ⟨b, o, none⟩ = cs[o]? := by
  rw [cell_of_row w b o cs.toArray t (0, 0) h]; simp
theorem Blk.cell {w : World} {b : Nat} {cs : List Value} {t : TypeId} (h : Blk w b cs t) (o : Nat) (v : Value) (hv : cs[o]? = some v) : w.cell? ⟨b, o, none⟩ = some v := by
  rw [h.at, hv]
theorem Blk.frozen {w : World} {b : Nat} {cs : List Value} {t : TypeId} (h : Blk w b cs t) (o : Nat) : w.frozen? ⟨b, o, none⟩ = false := by
  unfold Blk at h
  simp [World.frozen?, h]
theorem Blk.drew {w : World} {b : Nat} {cs : List Value} {t : TypeId} (h : Blk w b cs t) : Blk w.drew b cs t := h
theorem Turn.drew {b : Nat} {w w' : World} (h : Turn b w w') : Turn b w w'.drew := ⟨h.os, h.tape, h.output, h.size, h.block⟩
theorem Turn.refl (b : Nat) (w : World) : Turn b w w := ⟨rfl, rfl, rfl, Nat.le_refl _, fun _ _ => rfl⟩
theorem Turn.trans {b : Nat} {w w' w'' : World} (h : Turn b w w') (k : Turn b w' w'') : Turn b w w'' :=
  ⟨k.os.trans h.os, k.tape.trans h.tape, k.output.trans h.output, Nat.le_trans h.size k.size, fun i hi => (k.block i hi).trans (h.block i hi)⟩
theorem turn_alloc (w : World) (cs : List Value) (t : TypeId) : Turn w.heap.size w (w.alloc (.cells cs.toArray t)) ∧ Blk (w.alloc (.cells cs.toArray t)) w.heap.size cs t := by
  refine ⟨⟨rfl, rfl, rfl, by simp, fun k hk => ?_⟩, ?_⟩
  · show (w.heap.push _)[k]? = _
    rw [Array.getElem?_push, if_neg hk]
  · show (w.heap.push _)[w.heap.size]? = _
    simp
theorem turn_setCell (w : World) (b o : Nat) (v : Value) (cs : List Value) (t : TypeId) (h : Blk w b cs t) : Turn b w (w.setCell ⟨b, o, none⟩ v) ∧ Blk (w.setCell ⟨b, o, none⟩ v) b (cs.set o v) t := by
  refine ⟨⟨rfl, rfl, rfl, by simp [World.setCell], fun k hk => Below.heap_setCell _ _ _ _ hk⟩, ?_⟩
  unfold Blk at *
  simp [World.setCell, Array.getElem?_modify, h]
theorem turn_setCells (b : Nat) (t : TypeId) : ∀ (vs : List Value) (o : Nat) (w : World) (cs : List Value), Blk w b cs t → o + vs.length ≤ cs.length →
    Turn b w (w.setCells b o vs) ∧ Blk (w.setCells b o vs) b (cs.take o ++ vs ++ cs.drop (o + vs.length)) t
  | [], o, w, cs, h, _ => by
    refine ⟨Turn.refl _ _, ?_⟩
    simpa [World.setCells] using h
  | v :: vs, o, w, cs, h, hl => by
    simp only [List.length_cons] at hl
    obtain ⟨h1, h2⟩ := turn_setCell w b o v cs t h
    obtain ⟨h3, h4⟩ := turn_setCells b t vs (o + 1) _ _ h2 (by simp; omega)
    rw [World.setCells]
    refine ⟨h1.trans h3, ?_⟩
    have e : (cs.set o v).take (o + 1) ++ vs ++ (cs.set o v).drop (o + 1 + vs.length) = cs.take o ++ (v :: vs) ++ cs.drop (o + (v :: vs).length) := by
      rw [List.drop_set_of_lt (by omega), List.length_cons, show o + 1 + vs.length = o + (vs.length + 1) by omega]
      have : (cs.set o v).take (o + 1) = cs.take o ++ [v] := by
        rw [List.take_add_one, List.getElem?_set_self (by omega)]
        simp [List.take_set_of_le]
      rw [this]; simp
    rw [← e]; exact h4
/-- A part of a block. -/
theorem Blk.range {w : World} {b : Nat} {cs : List Value} {t : TypeId} (h : Blk w b cs t) (o n : Nat) : w.rangeAt b o ((cs.drop o).take n) := fun j v hv => by
  rw [h.at]
  rw [List.getElem?_take] at hv
  split at hv
  · rw [List.getElem?_drop] at hv; exact hv
  · cases hv
theorem Blk.there {w : World} {b : Nat} {cs : List Value} {t : TypeId} (h : Blk w b cs t) (o n : Nat) (hn : o + n ≤ cs.length) : w.there b o n := fun j hj => by
  refine ⟨?_, h.frozen _⟩
  rw [h.at, List.getElem?_eq_getElem (by omega)]; rfl
theorem run_copy_blk {w : World} (dT sT ty e : TypeId) (b o dl dc k : Nat) (s : ByteArray) (cs : List Value) (bt : TypeId)
    (hu : P.underlying dT = some (.slice e)) (hs : ∀ w, (sizeOf e).run P w = .ok 1 w) (hb : Blk w b cs bt) (hl : o + dl ≤ cs.length) (hk : min s.size dl = k) :
    ∃ w', (Builtin.copy_ #[dT, sT] ty #[.slice (some ⟨b, o, none⟩) dl dc, .string s]).run P w = .ok (.int .i64 k) w' ∧ Turn b w w' ∧ Blk w' b (cs.take o ++ (s.data.toList.take k).map (fun c => Value.int .u8 c.toNat) ++ cs.drop (o + k)) bt := by
  have hsz : s.size = s.data.toList.length := by show s.data.size = _; simp
  have hvl : ((s.data.toList.take k).map (fun c => Value.int .u8 c.toNat)).length = k := by rw [List.length_map, List.length_take]; omega
  obtain ⟨h1, h2⟩ := turn_setCells b bt ((s.data.toList.take k).map (fun c => Value.int .u8 c.toNat)) o w cs hb (by omega)
  rw [hvl] at h2
  have hst := run_storeCells_cells (P := P) b o ((s.data.toList.take k).map (fun c => Value.int .u8 c.toNat)) 0 w
    (fun j hj => by rw [Nat.add_zero]; exact ((hb.there o k (by omega)) j (by omega)).1) (fun j hj => hb.frozen _)
    (fun v hv => by obtain ⟨_, _, rfl⟩ := List.mem_map.1 hv; rfl)
  have hcells : ((s.extract 0 k).data.map (fun c => Value.int .u8 c.toNat)).toList = (s.data.toList.take k).map (fun c => Value.int .u8 c.toNat) := by
    simp [ByteArray.data_extract]
  have hmin : Nat.min s.size dl = k := hk
  refine ⟨_, ?_, h1, h2⟩
  rw [Nat.add_zero] at hst
  simp only [Builtin.copy_, List.getElem?_toArray, List.getElem?_cons_zero, List.getElem?_cons_succ, Sem.run_bind, run_underlying hu, Builtin.lenOf, Builtin.firstCells, hs, Sem.run_pure, Result.andThen_ok, hmin, hcells, hst]
  rfl
/-! ### The operations, each written out: 'with_reducible refine' meets them where they stand, and nowhere else -/
section
variable {ops : Array Oper} {rest : List Oper} {a : Act} {w : World} {Q : Exit → Act → World → Prop} {dst : Option Tmp} {ty : TypeId} {pos : String} {aft : Array Edge}
/-- Guards: the goal is as it was. -/
theorem at_box {x : Operand} (t : TypeId) (h : wpList P ops Q (⟨dst, .box t x, ty, pos, aft, none⟩ :: rest) a w) : wpList P ops Q (⟨dst, .box t x, ty, pos, aft, none⟩ :: rest) a w := h
theorem at_load {x : Operand} (t : TypeId) (h : wpList P ops Q (⟨dst, .load t x, ty, pos, aft, none⟩ :: rest) a w) : wpList P ops Q (⟨dst, .load t x, ty, pos, aft, none⟩ :: rest) a w := h
theorem at_store {x y : Operand} (t : TypeId) (h : wpList P ops Q (⟨dst, .store t x y, ty, pos, aft, none⟩ :: rest) a w) : wpList P ops Q (⟨dst, .store t x y, ty, pos, aft, none⟩ :: rest) a w := h
theorem at_alloc (t : TypeId) (h : wpList P ops Q (⟨dst, .alloc t, ty, pos, aft, none⟩ :: rest) a w) : wpList P ops Q (⟨dst, .alloc t, ty, pos, aft, none⟩ :: rest) a w := h
theorem at_copy {x y : Operand} {ts : Array TypeId} (h : wpList P ops Q (⟨dst, .call { callee := .builtin .copy, args := #[x, y], argTypes := ts }, ty, pos, aft, none⟩ :: rest) a w) : wpList P ops Q (⟨dst, .call { callee := .builtin .copy, args := #[x, y], argTypes := ts }, ty, pos, aft, none⟩ :: rest) a w := h
theorem L_box (t : TypeId) (x : Operand) (cs : List Value) (hx : a.eval x = .agg cs.toArray)
    (h : ∀ w', Turn w.heap.size w w' → Blk w' w.heap.size cs t → wpList P ops Q rest (a.put dst (.pointer (some ⟨w.heap.size, 0, none⟩))) w') :
    wpList P ops Q (⟨dst, .box t x, ty, pos, aft, none⟩ :: rest) a w := by
  refine wpList_plain rfl fun K hK => ?_
  obtain ⟨h1, h2⟩ := turn_alloc w cs t
  unfold Oper.wp
  simp only [execOp, hx, Instr.box, newVar, newRow, Value.cells, Sem.run_bind, run_newObj, Result.andThen_ok, Sem.run_pure]
  exact hK _ _ (h _ h1 h2)
theorem L_alloc (t : TypeId) (cs : List Value) (hz : ∀ w, (zeroValue t).run P w = .ok (.agg cs.toArray) w)
    (h : ∀ w', Turn w.heap.size w w' → Blk w' w.heap.size cs t → wpList P ops Q rest (a.put dst (.pointer (some ⟨w.heap.size, 0, none⟩))) w') :
    wpList P ops Q (⟨dst, .alloc t, ty, pos, aft, none⟩ :: rest) a w := by
  refine wpList_plain rfl fun K hK => ?_
  obtain ⟨h1, h2⟩ := turn_alloc w cs t
  unfold Oper.wp
  simp only [execOp, Instr.alloc, hz, newVar, newRow, Value.cells, Sem.run_bind, run_newObj, Result.andThen_ok, Sem.run_pure]
  exact hK _ _ (h _ h1 h2)
theorem L_load (t : TypeId) (x : Operand) (b o n : Nat) (cs : List Value) (bt : TypeId) (d : TypeDesc) (hx : a.eval x = .pointer (some ⟨b, o, none⟩)) (hb : Blk w b cs bt)
    (hu : P.underlying t = some d) (hd : d.isRow = true) (hi : (P.info? t).map (·.size) = some n) (hl : o + n ≤ cs.length) (r : List Value) (hr : (cs.drop o).take n = r)
    (h : wpList P ops Q rest (a.put dst (.agg r.toArray)) w) :
    wpList P ops Q (⟨dst, .load t x, ty, pos, aft, none⟩ :: rest) a w := by
  subst hr
  exact wpList_load_mid rfl t x rfl b o hx _ d (hb.range o n) hu hd (by rw [hi]; simp; omega) h
theorem L_store (t : TypeId) (x y : Operand) (b o : Nat) (vs cs : List Value) (bt : TypeId) (hx : a.eval x = .pointer (some ⟨b, o, none⟩)) (hy : a.eval y = .agg vs.toArray) (hb : Blk w b cs bt)
    (hi : (P.info? t).map (·.size) = some vs.length) (hl : o + vs.length ≤ cs.length) (h1 : ∀ v ∈ vs, v.oneCell' = true) (r : List Value) (hr : cs.take o ++ vs ++ cs.drop (o + vs.length) = r)
    (h : ∀ w', Turn b w w' → Blk w' b r bt → wpList P ops Q rest (a.put dst undef) w') :
    wpList P ops Q (⟨dst, .store t x y, ty, pos, aft, none⟩ :: rest) a w := by
  subst hr
  obtain ⟨h2, h3⟩ := turn_setCells b bt vs o w cs hb hl
  exact wpList_store_mid rfl t x y rfl b o vs.toArray hx hy (hb.there o _ (by simpa using hl)) (by simpa using hi) (all_oneCell_toArray h1) (by simpa using h _ h2 h3)
theorem L_load_all (t : TypeId) (x : Operand) (b : Nat) (cs : List Value) (bt : TypeId) (d : TypeDesc) (hx : a.eval x = .pointer (some ⟨b, 0, none⟩)) (hb : Blk w b cs bt)
    (hu : P.underlying t = some d) (hd : d.isRow = true) (hi : (P.info? t).map (·.size) = some cs.length)
    (h : wpList P ops Q rest (a.put dst (.agg cs.toArray)) w) :
    wpList P ops Q (⟨dst, .load t x, ty, pos, aft, none⟩ :: rest) a w :=
  L_load t x b 0 cs.length cs bt d hx hb hu hd hi (by omega) cs (by simp) h
theorem L_store_all (t : TypeId) (x y : Operand) (b : Nat) (vs cs : List Value) (bt : TypeId) (hx : a.eval x = .pointer (some ⟨b, 0, none⟩)) (hy : a.eval y = .agg vs.toArray) (hb : Blk w b cs bt)
    (hi : (P.info? t).map (·.size) = some vs.length) (hl : vs.length = cs.length) (h1 : ∀ v ∈ vs, v.oneCell' = true)
    (h : ∀ w', Turn b w w' → Blk w' b vs bt → wpList P ops Q rest (a.put dst undef) w') :
    wpList P ops Q (⟨dst, .store t x y, ty, pos, aft, none⟩ :: rest) a w :=
  L_store t x y b 0 vs cs bt hx hy hb hi (by omega) h1 vs (by rw [List.take_zero, List.nil_append, List.drop_eq_nil_of_le (by omega), List.append_nil]) h
/-- 'copy(x, s)', x a slice of bytes in a block, s a text. -/
theorem L_copy (x y : Operand) (dT sT e : TypeId) (b o dl dc k : Nat) (s : ByteArray) (cs : List Value) (bt : TypeId) (hx : a.eval x = .slice (some ⟨b, o, none⟩) dl dc) (hy : a.eval y = .string s)
    (hu : P.underlying dT = some (.slice e)) (hs : ∀ w, (sizeOf e).run P w = .ok 1 w) (hb : Blk w b cs bt) (hl : o + dl ≤ cs.length) (hk : min s.size dl = k)
    (h : ∀ w', Turn b w w' → Blk w' b (cs.take o ++ (s.data.toList.take k).map (fun c => Value.int .u8 c.toNat) ++ cs.drop (o + k)) bt → wpList P ops Q rest (a.put dst (.int .i64 k)) w') :
    wpList P ops Q (⟨dst, .call { callee := .builtin .copy, args := #[x, y], argTypes := #[dT, sT] }, ty, pos, aft, none⟩ :: rest) a w := by
  obtain ⟨w', hrun, h1, h2⟩ := run_copy_blk dT sT ty e b o dl dc k s cs bt hu hs hb hl hk
  refine wpList_plain rfl fun K hK => ?_
  unfold Oper.wp
  simp only [execOp, resolve, invoke, builtin, List.map_toArray, List.map_cons, List.map_nil, hx, hy, Sem.run_bind, Sem.run_pure, Result.andThen_ok]
  rw [hrun]
  exact hK _ _ (h _ h1 h2)
end
/-- A variable of an array's or a struct's type at the head of a block, as a result. -/
theorem results_blk {fn : Func} {p : Tmp} {t : TypeId} (hf : fn.results = #[.cell p t]) {a : Act} {w : World} (b : Nat) (cs : List Value) (d : TypeDesc) (hp : a.tmps.getD p undef = .pointer (some ⟨b, 0, none⟩)) (hb : Blk w b cs t)
    (hu : P.underlying t = some d) (hd : d.isRow = true) (hi : (P.info? t).map (·.size) = some cs.length) : (results fn a.tmps).run P w = .ok (.agg cs.toArray) w := by
  have h := run_loadVar_mid (P := P) w b 0 t cs d (by simpa using hb.range 0 cs.length) hu hd hi
  have hp' : a.tmps[p]?.getD undef = .pointer (some ⟨b, 0, none⟩) := by simpa using hp
  simp [results, hf, asAddr, hp', h]
/-- 'x[lo:hi]', 'x[lo:]', 'x[:]', x an array of elements of one cell. -/
theorem run_slice_lh (w : World) (b o n lo hi : Nat) (l h : Int) (t e : TypeId) (hu : P.underlying t = some (.array n e)) (hs : ∀ w, (sizeOf e).run P w = .ok 1 w) (hl : l = lo) (hh : h = hi) (h1 : lo ≤ hi) (h2 : hi ≤ n) (h3 : lo < n) :
    (Instr.sliceAt t (.pointer (some ⟨b, o, none⟩)) (some (.int .i64 l)) (some (.int .i64 h)) none).run P w = .ok (.slice (some ⟨b, o + lo, none⟩) (hi - lo) (n - lo)) w := by
  subst hl; subst hh
  have e1 : ¬ n = lo := by omega
  simp [Instr.sliceAt, Instr.sureAddr, run_underlying hu, Instr.sliceBounds, run_sliceBound, hs, h1, h2, e1, Addr.add_mid]
theorem run_slice_l (w : World) (b o n lo : Nat) (l : Int) (t e : TypeId) (hu : P.underlying t = some (.array n e)) (hs : ∀ w, (sizeOf e).run P w = .ok 1 w) (hl : l = lo) (h3 : lo < n) :
    (Instr.sliceAt t (.pointer (some ⟨b, o, none⟩)) (some (.int .i64 l)) none none).run P w = .ok (.slice (some ⟨b, o + lo, none⟩) (n - lo) (n - lo)) w := by
  subst hl
  have e1 : ¬ n = lo := by omega
  simp [Instr.sliceAt, Instr.sureAddr, run_underlying hu, Instr.sliceBounds, run_sliceBound, hs, e1, Addr.add_mid, Nat.le_of_lt h3]
theorem run_slice_all (w : World) (b o n : Nat) (t e : TypeId) (hu : P.underlying t = some (.array n e)) (hs : ∀ w, (sizeOf e).run P w = .ok 1 w) :
    (Instr.sliceAt t (.pointer (some ⟨b, o, none⟩)) none none none).run P w = .ok (.slice (some ⟨b, o, none⟩) n n) w := by
  simp [Instr.sliceAt, Instr.sureAddr, run_underlying hu, Instr.sliceBounds, hs, Addr.add_mid]
/-- 'x[k]', x an array by value, of elements of one cell. -/
theorem run_index_arr (w : World) (t e : TypeId) (n k : Nat) (i : Int) (cs : List Value) (v : Value) (hu : P.underlying t = some (.array n e)) (ha : ∀ w, (isAgg e).run P w = .ok false w) (hs : ∀ w, (sizeOf e).run P w = .ok 1 w) (hi : i = k) (hk : k < n) (hv : cs[k]? = some v) :
    (Instr.index t (.agg cs.toArray) (.int .i64 i)).run P w = .ok v w := by
  subst hi
  simp [Instr.index, asIntOf, run_underlying hu, part, ha, hs, hk, hv]
end Go.Proofs.Ytpkjocibgmjhdaa
