/- Extensions in memory: a slice of them that is there, and one that grows; what single operations yield on it. -/
import Derived.Test.YteieacamokoejaaHd5
namespace Go.Proofs.Yteieacamokoejaa
open Go Go.RowKit
set_option linter.unusedVariables false
/-- The slice v holds these extensions. -/
def Fis (w : World) (v : Value) (l : List (Int × ByteArray)) : Prop :=
  ∃ ao cap, v = .slice ao l.length cap ∧ ∀ j (h : j < l.length), ∃ b o, ao = some ⟨b, o, none⟩ ∧ w.cell? ⟨b, o + j * 2, none⟩ = some (.int .i64 l[j].1) ∧ w.cell? ⟨b, o + j * 2 + 1, none⟩ = some (.string l[j].2)
theorem Fis.below {w w' : World} {v : Value} {l : List (Int × ByteArray)} (h : Fis w v l) (hb : Below w.heap.size w w') : Fis w' v l := by
  obtain ⟨ao, cap, rfl, hc⟩ := h
  refine ⟨ao, cap, rfl, fun j hj => ?_⟩
  obtain ⟨b, o, h1, h2, h3⟩ := hc j hj
  refine ⟨b, o, h1, ?_, ?_⟩
  · rw [hb.cell (World.block_lt_of_cell? w _ h2), h2]
  · rw [hb.cell (World.block_lt_of_cell? w _ h3), h3]
theorem Fis.nil (w : World) : Fis w (.slice none 0 0) [] := ⟨none, 0, rfl, fun j hj => by simp at hj⟩
theorem Fis.take {w : World} {ao : Option Addr} {cap : Nat} {l : List (Int × ByteArray)} (h : Fis w (.slice ao l.length cap) l) (k : Nat) (hk : k ≤ l.length) : ∀ cap', Fis w (.slice ao k cap') (l.take k) := by
  intro cap'
  obtain ⟨ao', cap'', h1, hc⟩ := h
  have e : ao' = ao := by injection h1 with h1; exact h1.symm
  subst e
  have hl : (l.take k).length = k := by rw [List.length_take]; omega
  refine ⟨ao', cap', by rw [hl], fun j hj => ?_⟩
  rw [hl] at hj
  obtain ⟨b, o, h3, h4, h5⟩ := hc j (by omega)
  refine ⟨b, o, h3, ?_, ?_⟩ <;> rw [List.getElem_take] <;> assumption
/-- .. in blocks from B on. -/
def Fib (B : Nat) (w : World) (v : Value) (l : List (Int × ByteArray)) : Prop :=
  ∃ ao cap, v = .slice ao l.length cap ∧ ∀ j (h : j < l.length), ∃ b o, B ≤ b ∧ ao = some ⟨b, o, none⟩ ∧ w.cell? ⟨b, o + j * 2, none⟩ = some (.int .i64 l[j].1) ∧ w.cell? ⟨b, o + j * 2 + 1, none⟩ = some (.string l[j].2)
theorem Fib.fis {B : Nat} {w : World} {v : Value} {l : List (Int × ByteArray)} (h : Fib B w v l) : Fis w v l := by
  obtain ⟨ao, cap, rfl, hc⟩ := h
  exact ⟨ao, cap, rfl, fun j hj => by obtain ⟨b, o, _, h1, h2, h3⟩ := hc j hj; exact ⟨b, o, h1, h2, h3⟩⟩
theorem Fib.below {B : Nat} {w w' : World} {v : Value} {l : List (Int × ByteArray)} (h : Fib B w v l) (hb : Below w.heap.size w w') : Fib B w' v l := by
  obtain ⟨ao, cap, rfl, hc⟩ := h
  refine ⟨ao, cap, rfl, fun j hj => ?_⟩
  obtain ⟨b, o, h0, h1, h2, h3⟩ := hc j hj
  refine ⟨b, o, h0, h1, ?_, ?_⟩
  · rw [hb.cell (World.block_lt_of_cell? w _ h2), h2]
  · rw [hb.cell (World.block_lt_of_cell? w _ h3), h3]
theorem Fib.turn {B p : Nat} {w w' : World} {v : Value} {l : List (Int × ByteArray)} (h : Fib B w v l) (ht : Turn p w w') (hp : p < B) : Fib B w' v l := by
  obtain ⟨ao, cap, rfl, hc⟩ := h
  refine ⟨ao, cap, rfl, fun j hj => ?_⟩
  obtain ⟨b, o, h0, h1, h2, h3⟩ := hc j hj
  refine ⟨b, o, h0, h1, ?_, ?_⟩
  · rw [World.cell?_of_block (ht.block b (by omega)), h2]
  · rw [World.cell?_of_block (ht.block b (by omega)), h3]
theorem Fib.nil (B : Nat) (w : World) : Fib B w (.slice none 0 0) [] := ⟨none, 0, rfl, fun j hj => by simp at hj⟩
theorem Turn.toBelow {w w' : World} (h : Turn w.heap.size w w') : Below w.heap.size w w' := h.below (Below.refl _ _) (Nat.le_refl _)
theorem flat_len (l : List (Int × ByteArray)) : (l.flatMap fc).length = l.length * 2 := by
  induction l with
  | nil => rfl
  | cons f l ih => simp [List.flatMap_cons, ih, fc]; omega
theorem flat_at (l : List (Int × ByteArray)) (j : Nat) (h : j < l.length) : (l.flatMap fc)[j * 2]? = some (.int .i64 l[j].1) ∧ (l.flatMap fc)[j * 2 + 1]? = some (.string l[j].2) := by
  induction l generalizing j with
  | nil => simp at h
  | cons f l ih =>
    cases j with
    | zero => simp [List.flatMap_cons, fc]
    | succ j =>
      have := ih j (by simpa using h)
      rw [List.flatMap_cons, show (j + 1) * 2 = 2 + j * 2 by omega]
      rw [List.getElem?_append_right (by simp [fc]), show 2 + j * 2 + 1 = 2 + (j * 2 + 1) by omega, List.getElem?_append_right (by simp [fc])]
      simpa [fc] using this
/-- A slice of extensions of the call's own. -/
def OF (B : Nat) (w : World) (v : Value) (l : List (Int × ByteArray)) : Prop := w.ownsRow B 48 2 v l.length (l.flatMap fc)
theorem OF.below {B : Nat} {w w' : World} {v : Value} {l : List (Int × ByteArray)} (h : OF B w v l) (hb : Below w.heap.size w w') : OF B w' v l :=
  World.ownsRow.kept (row := none) h ⟨hb.os, hb.tape, hb.output, hb.size, fun k hk _ => hb.block k hk⟩ (by cases hv : v.ownBlock <;> simp)
theorem OF.nil (B : Nat) (w : World) : OF B w (.slice none 0 0) [] := World.ownsRow_nil w B 48 2
theorem OF.fib {B : Nat} {w : World} {v : Value} {l : List (Int × ByteArray)} (h : OF B w v l) : Fib B w v l := by
  have hk := h
  unfold OF at hk
  rcases h.2 with ⟨rfl, h0⟩ | ⟨g, cap, cur, rfl, hb, hg, _⟩
  · obtain rfl : l = [] := List.eq_nil_of_length_eq_zero h0
    exact Fib.nil B w
  · refine ⟨some ⟨g, 0, none⟩, cap, rfl, fun j hj => ⟨g, 0, hb, rfl, ?_, ?_⟩⟩
    · rw [Nat.zero_add, hk.cellAt _ (by omega)]; exact (flat_at l j hj).1
    · rw [Nat.zero_add, hk.cellAt _ (by omega)]; exact (flat_at l j hj).2
theorem OF.fs {B : Nat} {w : World} {v : Value} {l : List (Int × ByteArray)} (h : OF B w v l) : Fis w v l := h.fib.fis
theorem OF.len {B : Nat} {w : World} {v : Value} {l : List (Int × ByteArray)} (h : OF B w v l) : ∃ ao cap, v = .slice ao l.length cap := by
  rcases h.2 with ⟨rfl, h0⟩ | ⟨g, cap, cur, rfl, hb, hg, _⟩
  · exact ⟨none, 0, by rw [h0]⟩
  · exact ⟨_, _, rfl⟩
theorem infoF : (Try.prog.info? 48).map (fun i => (i.zero, i.size, i.bytes)) = some (some (.agg (fc fz).toArray), 2, 24) := by kernel_rfl
section
variable {P : Program} {ops : Array Oper} {rest : List Oper} {a : Act} {w : World} {Q : Exit → Act → World → Prop} {dst : Option Tmp} {ty yt : TypeId} {pos : String} {aft : Array Edge} {gd : Option (Nat × Bool)} {K : Value → World → Prop}
theorem run_bsl1 (w : World) (f : Int × ByteArray) : (Instr.buildSlice 35 1 #[(0, .agg (fc f).toArray)]).run Try.prog w = .ok (.slice (some ⟨w.heap.size, 0, none⟩) 1 1) (w.alloc (.cells (fc f).toArray 48)) := by
  unfold fc
  go_simp
theorem g_bslF (x : Operand) (f : Int × ByteArray) (hx : a.eval x = .agg (fc f).toArray) (hk : ∀ w', Turn w.heap.size w w' → Blk w' w.heap.size (fc f) 48 → K (.slice (some ⟨w.heap.size, 0, none⟩) 1 1) w') : gives Try.prog ⟨dst, .buildSlice 35 1 #[(0, x)], ty, pos, aft, gd⟩ a w K := by
  obtain ⟨h1, h2⟩ := turn_alloc w (fc f) 48
  unfold gives
  simp only [execOp, List.map_toArray, List.map_cons, List.map_nil, hx, Sem.run_bind, run_bsl1, Result.andThen_ok, Sem.run_pure]
  exact hk _ h1 h2
theorem g_appF (x y : Operand) (B : Nat) (v : Value) (l : List (Int × ByteArray)) (f : Int × ByteArray) (p : Nat) (hx : a.eval x = v) (hy : a.eval y = .slice (some ⟨p, 0, none⟩) 1 1) (ho : OF B w v l) (hb : Blk w p (fc f) 48) (hl : l.length ≤ 1000000) (hB : B ≤ w.heap.size)
    (hk : ∀ v' w', OF B w' v' (l ++ [f]) → w.grownBy w' v.ownBlock → (v'.ownBlock = v.ownBlock ∨ v'.ownBlock = some w.heap.size) → K v' w') : gives Try.prog ⟨dst, .call { callee := .builtin .append, args := #[x, y], argTypes := #[35, 35] }, ty, pos, aft, gd⟩ a w K := by
  obtain ⟨i0, hi, hz0, hz1, hz2⟩ := info_parts infoF
  obtain ⟨v', w', hr, h2, h3, h4, h5⟩ := run_append_own_at (P := Try.prog) w B 35 ty 48 i0 _ 2 24 Try.underlying35 hi hz0 hz1 hz2 rfl (by decide) v l.length (l.flatMap fc) ho ⟨p, 0, none⟩ 1 1 (fc f) rfl
    (fun j u hj => by rw [Addr.add_mid, hb.at, Nat.zero_add]; exact hj) (one_fc f) (by unfold maxLen; omega) (by omega) hB
  unfold gives
  simp only [execOp, resolve, invoke, builtin, List.map_toArray, List.map_cons, List.map_nil, hx, hy, Sem.run_bind, Sem.run_pure, Result.andThen_ok, hr]
  refine hk v' w' ?_ h3 h5
  unfold OF
  rw [List.length_append, List.length_singleton, List.flatMap_append, List.flatMap_cons, List.flatMap_nil, List.append_nil]
  exact h2
theorem run_ixF (w : World) (b o n cap j : Nat) (h : j < n) : (Instr.indexAt 35 (.slice (some ⟨b, o, none⟩) n cap) (.int .i64 j)).run Try.prog w = .ok (.pointer (some ⟨b, o + j * 2, none⟩)) w := by
  go_simp
theorem g_ixF (x y : Operand) (b o n cap j : Nat) (hx : a.eval x = .slice (some ⟨b, o, none⟩) n cap) (hy : a.eval y = .int .i64 j) (h : j < n) (hk : K (.pointer (some ⟨b, o + j * 2, none⟩)) w) : gives Try.prog ⟨dst, .indexAddr 35 x y, ty, pos, aft, gd⟩ a w K :=
  g_val _ w (by simp only [execOp, hx, hy, Sem.run_bind, run_ixF w b o n cap j h, Result.andThen_ok, Sem.run_pure]) hk
theorem g_loadF (x : Operand) (b o : Nat) (f : Int × ByteArray) (hx : a.eval x = .pointer (some ⟨b, o, none⟩)) (h0 : w.cell? ⟨b, o, none⟩ = some (.int .i64 f.1)) (h1 : w.cell? ⟨b, o + 1, none⟩ = some (.string f.2)) (hk : K (.agg (fc f).toArray) w) : gives Try.prog ⟨dst, .load 48 x, ty, pos, aft, gd⟩ a w K := by
  have hr : w.rangeAt b o (fc f) := fun j v hv => by
    match j, hv with
    | 0, hv => simp [fc] at hv; subst hv; exact h0
    | 1, hv => simp [fc] at hv; subst hv; exact h1
    | j + 2, hv => simp [fc] at hv
  unfold gives
  simp only [execOp, hx, Sem.run_bind, run_loadAt_mid w b o 48 _ _ hr fieldsF rfl (szF f), Result.andThen_ok, Sem.run_pure]
  exact hk
theorem run_fFo (w : World) (b o : Nat) : (Instr.fieldAt 48 (.pointer (some ⟨b, o, none⟩)) 0).run Try.prog w = .ok (.pointer (some ⟨b, o, none⟩)) w ∧ (Instr.fieldAt 48 (.pointer (some ⟨b, o, none⟩)) 1).run Try.prog w = .ok (.pointer (some ⟨b, o + 1, none⟩)) w := by
  constructor <;> go_simp <;> simp [Addr.add_mid]
theorem g_fF0 (x : Operand) (b o : Nat) (hx : a.eval x = .pointer (some ⟨b, o, none⟩)) (hk : K (.pointer (some ⟨b, o, none⟩)) w) : gives Try.prog ⟨dst, .fieldAddr 48 x 0, ty, pos, aft, gd⟩ a w K :=
  g_val _ w (by simp only [execOp, hx, Sem.run_bind, (run_fFo w b o).1, Result.andThen_ok, Sem.run_pure]) hk
theorem g_fF1 (x : Operand) (b o : Nat) (hx : a.eval x = .pointer (some ⟨b, o, none⟩)) (hk : K (.pointer (some ⟨b, o + 1, none⟩)) w) : gives Try.prog ⟨dst, .fieldAddr 48 x 1, ty, pos, aft, gd⟩ a w K :=
  g_val _ w (by simp only [execOp, hx, Sem.run_bind, (run_fFo w b o).2, Result.andThen_ok, Sem.run_pure]) hk
theorem at_ixD {t : TypeId} {x y : Operand} (d : Tmp) (h : wpList P ops Q (⟨some d, .indexAddr t x y, ty, pos, aft, gd⟩ :: rest) a w) : wpList P ops Q (⟨some d, .indexAddr t x y, ty, pos, aft, gd⟩ :: rest) a w := h
theorem at_fdD {t : TypeId} {x : Operand} {i : Nat} (d : Tmp) (h : wpList P ops Q (⟨some d, .fieldAddr t x i, ty, pos, aft, gd⟩ :: rest) a w) : wpList P ops Q (⟨some d, .fieldAddr t x i, ty, pos, aft, gd⟩ :: rest) a w := h
theorem at_bslD {t : TypeId} {n : Nat} {ps : Array (Nat × Operand)} (d : Tmp) (h : wpList P ops Q (⟨some d, .buildSlice t n ps, ty, pos, aft, gd⟩ :: rest) a w) : wpList P ops Q (⟨some d, .buildSlice t n ps, ty, pos, aft, gd⟩ :: rest) a w := h
theorem at_idxD {t : TypeId} {x y : Operand} (d : Tmp) (h : wpList P ops Q (⟨some d, .index t x y, ty, pos, aft, gd⟩ :: rest) a w) : wpList P ops Q (⟨some d, .index t x y, ty, pos, aft, gd⟩ :: rest) a w := h
end
end Go.Proofs.Yteieacamokoejaa
