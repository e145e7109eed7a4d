/- Numbers as lists of bits, the lowest first. No program here. Slices of bools, read and grown; the reference's numbers in memory. -/
import Derived.WalkKit
import Derived.Below
import Derived.Test.YtpenicjlpiechaaDoorQWd
import Derived.Laws.AppendOwn
namespace Go.Proofs.YtpenicjlpiechaaDoor.Wd
set_option maxRecDepth 10000
open Go Go.RowKit
def bit (b : Bool) : Nat := if b then 1 else 0
theorem bit_le (b : Bool) : bit b ≤ 1 := by cases b <;> decide
theorem bit_true : bit true = 1 := rfl
theorem bit_false : bit false = 0 := rfl
/-- How great a list of bits is. -/
def val : List Bool → Nat
  | [] => 0
  | b :: l => bit b + 2 * val l
theorem val_nil : val [] = 0 := rfl
theorem val_cons (b : Bool) (l : List Bool) : val (b :: l) = bit b + 2 * val l := rfl
theorem val_append (l m : List Bool) : val (l ++ m) = val l + 2 ^ l.length * val m := by
  induction l with
  | nil => simp [val]
  | cons b l ih =>
    rw [List.cons_append, val_cons, val_cons, ih, List.length_cons, Nat.pow_succ, Nat.mul_add, Nat.mul_comm (2 ^ l.length) 2, ← Nat.mul_assoc]
    omega
theorem val_snoc (l : List Bool) (b : Bool) : val (l ++ [b]) = val l + 2 ^ l.length * bit b := by
  rw [val_append, val_cons, val_nil, Nat.mul_zero, Nat.add_zero]
theorem val_lt (l : List Bool) : val l < 2 ^ l.length := by
  induction l with
  | nil => decide
  | cons b l ih =>
    have := bit_le b
    rw [val_cons, List.length_cons, Nat.pow_succ]
    omega
theorem val_split (l : List Bool) (k : Nat) (h : k ≤ l.length) : val l = val (l.take k) + 2 ^ k * val (l.drop k) := by
  have e := val_append (l.take k) (l.drop k)
  rw [List.take_append_drop, List.length_take, Nat.min_eq_left h] at e
  exact e
/-- The bit at a place; none behind the end. -/
def atB (l : List Bool) (i : Nat) : Bool := l.getD i false
theorem atB_lt (l : List Bool) (i : Nat) (h : i < l.length) : atB l i = l[i] := by simp [atB, h]
theorem atB_ge (l : List Bool) (i : Nat) (h : l.length ≤ i) : atB l i = false := by simp [atB, h]
theorem val_take_succ (l : List Bool) (i : Nat) : val (l.take (i + 1)) = val (l.take i) + 2 ^ i * bit (atB l i) := by
  by_cases h : i < l.length
  · rw [List.take_succ_eq_append_getElem h, val_snoc, List.length_take, Nat.min_eq_left (by omega), atB_lt l i h]
  · rw [List.take_of_length_le (by omega), List.take_of_length_le (by omega), atB_ge l i (by omega)]
    simp [bit]
theorem val_drop (l : List Bool) (i : Nat) : val (l.drop i) = bit (atB l i) + 2 * val (l.drop (i + 1)) := by
  by_cases h : i < l.length
  · rw [List.drop_eq_getElem_cons h, val_cons, atB_lt l i h]
  · rw [List.drop_eq_nil_of_le (by omega), List.drop_eq_nil_of_le (by omega), atB_ge l i (by omega)]
    rfl
theorem val_take_lt (l : List Bool) (i : Nat) : val (l.take i) < 2 ^ i := by
  have h := val_lt (l.take i)
  refine Nat.lt_of_lt_of_le h (Nat.pow_le_pow_right (by omega) ?_)
  rw [List.length_take]; omega
theorem val_split' (l : List Bool) (k : Nat) : val l = val (l.take k) + 2 ^ k * val (l.drop k) := by
  by_cases h : k ≤ l.length
  · exact val_split l k h
  · rw [List.take_of_length_le (by omega), List.drop_eq_nil_of_le (by omega), val_nil, Nat.mul_zero, Nat.add_zero]
/-- No bits 0 at the end. -/
def Can (l : List Bool) : Prop := l = [] ∨ atB l (l.length - 1) = true
theorem Can.ge {l : List Bool} (h : Can l) (hn : l ≠ []) : 2 ^ (l.length - 1) ≤ val l := by
  have hl : 0 < l.length := List.length_pos_iff.2 hn
  rcases h with h | h
  · exact absurd h hn
  · have e := val_take_succ l (l.length - 1)
    rw [show l.length - 1 + 1 = l.length by omega, List.take_length, h, bit_true] at e
    omega
theorem Can.len {l : List Bool} (h : Can l) (p : Nat) : l.length ≤ p ↔ val l < 2 ^ p := by
  constructor
  · intro hp
    exact Nat.lt_of_lt_of_le (val_lt l) (Nat.pow_le_pow_right (by omega) hp)
  · intro hv
    by_cases hn : l = []
    · subst hn; simp
    · have h1 := h.ge hn
      by_cases hp : l.length ≤ p
      · exact hp
      · have : 2 ^ p ≤ 2 ^ (l.length - 1) := Nat.pow_le_pow_right (by omega) (by omega)
        omega
theorem Can.zero {l : List Bool} (h : Can l) (hv : val l = 0) : l = [] := by
  have := (h.len 0).2 (by rw [hv]; decide)
  exact List.eq_nil_of_length_eq_zero (by omega)
/-- A sign, and how great it is. -/
def iv (s : Bool) (l : List Bool) : Int := if s then -(val l : Int) else (val l : Int)
theorem iv_true (l : List Bool) : iv true l = -(val l : Int) := rfl
theorem iv_false (l : List Bool) : iv false l = (val l : Int) := rfl
/-- The carry's step. -/
theorem sum_step (P c c' : Nat) (a b o : Bool) (va vb vo : Nat) (h : vo + P * c = va + vb) (hc : bit o + 2 * c' = c + bit a + bit b) : vo + P * bit o + 2 * P * c' = (va + P * bit a) + (vb + P * bit b) := by
  have e : P * (bit o + 2 * c') = P * (c + bit a + bit b) := by rw [hc]
  rw [Nat.mul_add, Nat.mul_add, Nat.mul_add, ← Nat.mul_assoc, Nat.mul_comm P 2] at e
  omega
theorem off_step (P c c' : Nat) (a b o : Bool) (va vb vo : Nat) (h : vo + vb = va + P * c) (hc : bit o + c + bit b = bit a + 2 * c') : (vo + P * bit o) + (vb + P * bit b) = (va + P * bit a) + 2 * P * c' := by
  have e : P * (bit o + c + bit b) = P * (bit a + 2 * c') := by rw [hc]
  rw [Nat.mul_add, Nat.mul_add, Nat.mul_add, ← Nat.mul_assoc, Nat.mul_comm P 2] at e
  omega
end Go.Proofs.YtpenicjlpiechaaDoor.Wd
namespace Go.Proofs.YtpenicjlpiechaaDoor.Wd
set_option maxRecDepth 10000
open Go Go.RowKit
set_option linter.unusedVariables false
def bl (l : List Bool) : List Value := l.map Value.bool
theorem bl_length (l : List Bool) : (bl l).length = l.length := by simp [bl]
theorem bl_one (l : List Bool) : ∀ v ∈ bl l, v.oneCell' = true := by
  intro v hv; obtain ⟨_, _, rfl⟩ := List.mem_map.1 hv; rfl
theorem bl_at (l : List Bool) (i : Nat) (h : i < l.length) : (bl l)[i]? = some (.bool (atB l i)) := by simp [bl, atB, h]
theorem bl_append (l m : List Bool) : bl l ++ bl m = bl (l ++ m) := by simp [bl]
/-- The slice v reads as the list l. -/
def Rd (w : World) (v : Value) (l : List Bool) : Prop := ∃ g cap sp, v = .slice (some ⟨g, 0, none⟩) l.length cap ∧ l.length ≤ cap ∧ cap ≤ 9223372036854775807 ∧ cap ≤ l.length + List.length sp ∧ Blk w g (bl l ++ sp) 4
theorem Rd.below {w w' : World} {v : Value} {l : List Bool} (h : Rd w v l) (hb : Below w.heap.size w w') : Rd w' v l := by
  obtain ⟨g, cap, sp, e, h1, h2, h3, h4⟩ := h
  exact ⟨g, cap, sp, e, h1, h2, h3, h4.below hb h4.lt⟩
theorem Rd.turn {w w' : World} {v : Value} {l : List Bool} {b : Nat} {cs : List Value} {t : TypeId} (h : Rd w v l) (ht : Turn b w w') (hb : Blk w b cs t) (hn : t ≠ 4) : Rd w' v l := by
  obtain ⟨g, cap, sp, e, h1, h2, h3, h4⟩ := h
  refine ⟨g, cap, sp, e, h1, h2, h3, ht.blk h4 ?_⟩
  rintro rfl
  unfold Blk at h4 hb
  rw [h4] at hb
  simp only [Option.some.injEq, Obj.cells.injEq] at hb
  exact hn hb.2.1.symm
theorem Rd.cell {w : World} {g cap n : Nat} {l : List Bool} {sp : List Value} (h : Blk w g (bl l ++ sp) 4) (j : Nat) (hj : j < l.length) : w.cell? ⟨g, j, none⟩ = some (.bool (atB l j)) := by
  refine h.cell j _ ?_
  rw [List.getElem?_append_left (by rw [bl_length]; exact hj), bl_at l j hj]
theorem _root_.Go.Proofs.YtpenicjlpiechaaDoor.Turn.toBelow {w w' : World} (h : Turn w.heap.size w w') : Below w.heap.size w w' := h.below (Below.refl _ _) (Nat.le_refl _)
/-- A slice that the program grows. -/
def Own (w : World) (B : Nat) (v : Value) (l : List Bool) : Prop := w.ownsRow B 4 1 v l.length (bl l)
theorem Own.below {w w' : World} {B : Nat} {v : Value} {l : List Bool} (h : Own w B v l) (hb : Below w.heap.size w w') : Own w' B v l := by
  refine ⟨h.1, ?_⟩
  rcases h.2 with hn | ⟨g, cap, cur, rfl, hg, hgg, rest⟩
  · exact .inl hn
  · exact .inr ⟨g, cap, cur, rfl, hg, (hb.block g (Array.getElem?_eq_some_iff.1 hgg).1).trans hgg, rest⟩
theorem Own.turn {w w' : World} {B b : Nat} {v : Value} {l : List Bool} (h : Own w B v l) (ht : Turn b w w') (hb : b < B) : Own w' B v l := by
  refine ⟨h.1, ?_⟩
  rcases h.2 with hn | ⟨g, cap, cur, rfl, hg, hgg, rest⟩
  · exact .inl hn
  · exact .inr ⟨g, cap, cur, rfl, hg, (ht.block g (by omega)).trans hgg, rest⟩
theorem Own.lt {w : World} {B : Nat} {v : Value} {l : List Bool} (h : Own w B v l) (k : Nat) (hk : v.ownBlock = some k) : B ≤ k ∧ k < w.heap.size := by
  rcases h.2 with ⟨rfl, _⟩ | ⟨g, cap, cur, rfl, hg, hgg, rest⟩
  · simp [Value.ownBlock] at hk
  · simp [Value.ownBlock] at hk
    subst hk
    exact ⟨hg, (Array.getElem?_eq_some_iff.1 hgg).1⟩
theorem Own.blk {w : World} {B : Nat} {v : Value} {l : List Bool} (h : Own w B v l) (hl : v ≠ .slice none 0 0) :
    ∃ g cap sp, v = .slice (some ⟨g, 0, none⟩) l.length cap ∧ B ≤ g ∧ l.length ≤ cap ∧ cap ≤ 9223372036854775807 ∧ sp.length + l.length = cap ∧ Blk w g (bl l ++ sp) 4 := by
  rcases h.2 with ⟨hn, _⟩ | ⟨g, cap, cur, rfl, hg, hgg, h1, h2, h3, h4⟩
  · exact absurd hn hl
  · rw [Nat.mul_one] at h3 h4
    refine ⟨g, cap, cur.toList.drop l.length, rfl, hg, h1, h2, ?_, ?_⟩
    · rw [List.length_drop, Array.length_toList]; omega
    · rw [← h4, List.take_append_drop]; exact hgg
theorem Own.rd {w : World} {B : Nat} {v : Value} {l : List Bool} (h : Own w B v l) (hl : v ≠ .slice none 0 0) : Rd w v l := by
  obtain ⟨g, cap, sp, e, h1, h2, h3, h4, h5⟩ := h.blk hl
  exact ⟨g, cap, sp, e, h2, h3, by omega, h5⟩
theorem Own.nonnil {w : World} {B : Nat} {v : Value} {l : List Bool} (h : Own w B v l) (hl : l ≠ []) : v ≠ .slice none 0 0 := by
  rintro rfl
  rcases h.2 with ⟨_, hn⟩ | ⟨g, cap, cur, e, _⟩
  · exact hl (List.eq_nil_of_length_eq_zero hn)
  · simp at e
theorem Own.of {w : World} {B g cap : Nat} {l : List Bool} {sp : List Value} (hB : B ≤ g) (hc : sp.length + l.length = cap) (hm : cap ≤ 9223372036854775807) (h : Blk w g (bl l ++ sp) 4) : Own w B (.slice (some ⟨g, 0, none⟩) l.length cap) l := by
  refine ⟨by rw [bl_length, Nat.mul_one], .inr ⟨g, cap, (bl l ++ sp).toArray, rfl, hB, h, by omega, hm, ?_, ?_⟩⟩
  · rw [List.size_toArray, List.length_append, bl_length]; omega
  · rw [Nat.mul_one, List.take_left' (bl_length l)]
theorem Own.nil (w : World) (B : Nat) : Own w B (.slice none 0 0) [] := ⟨rfl, .inl ⟨rfl, rfl⟩⟩
theorem info4 : (Tryd.prog.info? 4).map (fun i => (i.zero, i.size, i.bytes)) = some (some (.bool false), 1, 1) := by kernel_rfl
/-- 'append(v, y...)', v owned, y read. -/
theorem run_app {w : World} (ty : TypeId) (B : Nat) (v y : Value) (l news : List Bool) (ho : Own w B v l) (hy : Rd w y news) (hs : l.length + news.length ≤ 100000) (hB : B ≤ w.heap.size) :
    ∃ v' w', (Builtin.append_ #[70, 70] ty #[v, y]).run Tryd.prog w = .ok v' w' ∧ Own w' B v' (l ++ news) ∧ Below B w w' ∧ (v ≠ .slice none 0 0 ∨ news ≠ [] → v' ≠ .slice none 0 0) := by
  obtain ⟨i, hi, he⟩ : ∃ i, Tryd.prog.info? 4 = some i ∧ (i.zero, i.size, i.bytes) = (some (.bool false), 1, 1) := by
    have h := info4
    cases hi : Tryd.prog.info? 4 with
    | none => rw [hi] at h; cases h
    | some i => rw [hi] at h; exact ⟨i, rfl, Option.some.inj h⟩
  obtain ⟨g, cap, sp, rfl, -, -, -, hb⟩ := hy
  obtain ⟨v', w', h1, h2, h3, h4⟩ := run_append_own (P := Tryd.prog) w B 70 ty 4 i (.bool false) 1 1 Tryd.underlying70 hi (congrArg (·.1) he) (congrArg (·.2.1) he) (congrArg (·.2.2) he) rfl (by decide) v l.length (bl l) ho
    ⟨g, 0, none⟩ news.length cap (bl news) (by rw [bl_length, Nat.mul_one]) (fun j u hu => by
      have hj : j < news.length := by have := (List.getElem?_eq_some_iff.1 hu).1; rwa [bl_length] at this
      rw [bl_at news j hj] at hu
      rw [Addr.add_mid, Nat.zero_add, Rd.cell (cap := 0) (n := 0) hb j hj, ← hu]) (bl_one _) (by show _ ≤ 9223372036854775807; omega) (by omega) hB
  refine ⟨v', w', h1, ?_, ⟨h3.os, h3.tape, h3.output, h3.size, fun k hk => h3.block k (by omega) (fun e => ?_)⟩, fun hne hv => ?_⟩
  · rw [bl_append, ← List.length_append] at h2
    exact h2
  · have := (ho.lt k e.symm).1
    omega
  · have := h4.1 hv
    rcases hne with hne | hne
    · exact hne this.1
    · exact hne (List.eq_nil_of_length_eq_zero this.2)
section
variable {P : Program} {ops : Array Oper} {Q : Exit → Act → World → Prop} {a : Act} {w : World} {rest : List Oper} {dst : Option Tmp} {ty : TypeId} {pos : String} {aft : Array Edge} {gd : Option (Nat × Bool)} {K : Value → World → Prop}
theorem at_append {x y : Operand} {ts : Array TypeId} (h : wpList P ops Q (⟨dst, .call { callee := .builtin .append, args := #[x, y], argTypes := ts }, ty, pos, aft, none⟩ :: rest) a w) : wpList P ops Q (⟨dst, .call { callee := .builtin .append, args := #[x, y], argTypes := ts }, ty, pos, aft, none⟩ :: rest) a w := h
theorem at_build {t : TypeId} {ps : Array (Nat × Operand)} (n : Nat) (h : wpList P ops Q (⟨dst, .buildSlice t n ps, ty, pos, aft, none⟩ :: rest) a w) : wpList P ops Q (⟨dst, .buildSlice t n ps, ty, pos, aft, none⟩ :: rest) a w := h
theorem g_app (x y : Operand) (B : Nat) (v u : Value) (l news : List Bool) (hx : a.eval x = v) (hy : a.eval y = u) (ho : Own w B v l) (hr : Rd w u news) (hs : l.length + news.length ≤ 100000) (hB : B ≤ w.heap.size)
    (h : ∀ v' w', Own w' B v' (l ++ news) → Below B w w' → (v ≠ .slice none 0 0 ∨ news ≠ [] → v' ≠ .slice none 0 0) → K v' w') :
    gives Tryd.prog ⟨dst, .call { callee := .builtin .append, args := #[x, y], argTypes := #[70, 70] }, ty, pos, aft, gd⟩ a w K := by
  obtain ⟨v', w', hrun, h1, h2, h3⟩ := run_app ty B v u l news ho hr hs hB
  unfold gives
  simp only [execOp, resolve, invoke, builtin, List.map_toArray, List.map_cons, List.map_nil, hx, hy, Sem.run_bind, Sem.run_pure, Result.andThen_ok, hrun]
  exact h _ _ h1 h2 h3
theorem L_app (x y : Operand) (B : Nat) (v u : Value) (l news : List Bool) (hx : a.eval x = v) (hy : a.eval y = u) (ho : Own w B v l) (hr : Rd w u news) (hs : l.length + news.length ≤ 100000) (hB : B ≤ w.heap.size)
    (h : ∀ v' w', Own w' B v' (l ++ news) → Below B w w' → (v ≠ .slice none 0 0 ∨ news ≠ [] → v' ≠ .slice none 0 0) → wpList Tryd.prog ops Q rest (a.put dst v') w') :
    wpList Tryd.prog ops Q (⟨dst, .call { callee := .builtin .append, args := #[x, y], argTypes := #[70, 70] }, ty, pos, aft, none⟩ :: rest) a w :=
  L_give rfl (g_app x y B v u l news hx hy ho hr hs hB h)
theorem run_b1 (w : World) (x : Bool) : (Instr.buildSlice 70 1 #[(0, .bool x)]).run Tryd.prog w = .ok (.slice (some ⟨w.heap.size, 0, none⟩) 1 1) (w.alloc (.cells #[.bool x] 4)) := by
  go_simp
theorem run_b0 (w : World) : (Instr.buildSlice 70 0 #[]).run Tryd.prog w = .ok (.slice (some ⟨w.heap.size, 0, none⟩) 0 0) (w.alloc (.cells #[] 4)) := by
  go_simp
theorem rd1 {w : World} {g : Nat} {x : Bool} (h : Blk w g (bl [x]) 4) : Rd w (.slice (some ⟨g, 0, none⟩) 1 1) [x] := ⟨g, 1, [], rfl, by simp, by omega, by simp, by simpa using h⟩
theorem own1 {w : World} {g B : Nat} {x : Bool} (h : Blk w g (bl [x]) 4) (hB : B ≤ g) : Own w B (.slice (some ⟨g, 0, none⟩) 1 1) [x] := Own.of (l := [x]) (sp := []) hB rfl (by omega) (by simpa using h)
theorem own0 {w : World} {g B : Nat} (h : Blk w g (bl []) 4) (hB : B ≤ g) : Own w B (.slice (some ⟨g, 0, none⟩) 0 0) [] := Own.of (l := []) (sp := []) hB rfl (by omega) (by simpa using h)
theorem g_b1 (y : Operand) (x : Bool) (hy : a.eval y = .bool x)
    (h : ∀ w', Turn w.heap.size w w' → Blk w' w.heap.size (bl [x]) 4 → K (.slice (some ⟨w.heap.size, 0, none⟩) 1 1) w') : gives Tryd.prog ⟨dst, .buildSlice 70 1 #[(0, y)], ty, pos, aft, gd⟩ a w K := by
  obtain ⟨h2, h3⟩ := turn_alloc w (bl [x]) 4
  refine g_val _ _ ?_ (h _ h2 h3)
  simp only [execOp, List.map_toArray, List.map_cons, List.map_nil, hy, Sem.run_bind, run_b1, Result.andThen_ok, Sem.run_pure]
  rfl
theorem g_b0 (h : ∀ w', Turn w.heap.size w w' → Blk w' w.heap.size (bl []) 4 → K (.slice (some ⟨w.heap.size, 0, none⟩) 0 0) w') : gives Tryd.prog ⟨dst, .buildSlice 70 0 #[], ty, pos, aft, gd⟩ a w K := by
  obtain ⟨h2, h3⟩ := turn_alloc w (bl []) 4
  refine g_val _ _ ?_ (h _ h2 h3)
  simp only [execOp, List.map_toArray, List.map_nil, Sem.run_bind, run_b0, Result.andThen_ok, Sem.run_pure]
  rfl
theorem L_b1 (y : Operand) (x : Bool) (hy : a.eval y = .bool x)
    (h : ∀ w', Turn w.heap.size w w' → Blk w' w.heap.size (bl [x]) 4 → wpList Tryd.prog ops Q rest (a.put dst (.slice (some ⟨w.heap.size, 0, none⟩) 1 1)) w') :
    wpList Tryd.prog ops Q (⟨dst, .buildSlice 70 1 #[(0, y)], ty, pos, aft, none⟩ :: rest) a w := L_give rfl (g_b1 y x hy h)
theorem L_b0 (h : ∀ w', Turn w.heap.size w w' → Blk w' w.heap.size (bl []) 4 → wpList Tryd.prog ops Q rest (a.put dst (.slice (some ⟨w.heap.size, 0, none⟩) 0 0)) w') :
    wpList Tryd.prog ops Q (⟨dst, .buildSlice 70 0 #[], ty, pos, aft, none⟩ :: rest) a w := L_give rfl (g_b0 h)
end
set_option maxHeartbeats 400000 in
theorem at_any (v : Value) (l : List Bool) (i : Nat) (w : World) (h : Rd w v l) (b : Bool) (hb : Hid (atB l i = b)) :
    Calls Tryd.prog 75 #[v, .int .i64 i] w fun e w' => e = .returned (.bool b) ∧ w' = w := by
  obtain ⟨g, cap, sp, rfl, h1, h2, h3, h4⟩ := h
  have hbb := hb.out
  by_cases hi : i < l.length
  · have hc := Rd.cell (cap := 0) (n := 0) h4 i hi
    rw [hbb] at hc
    clear hbb hb h4
    go_enter Tryd.func75, Tryd.ntmps75
    go_wp2
    go_ret
    exact ⟨rfl, rfl⟩
  · rw [atB_ge l i (by omega)] at hbb
    subst hbb
    clear hb
    have hn : ¬ (i : Int) < (l.length : Int) := by omega
    go_enter Tryd.func75, Tryd.ntmps75
    go_wp2
    go_ret
    exact ⟨rfl, rfl⟩
end Go.Proofs.YtpenicjlpiechaaDoor.Wd
