/- What the reference's right, constants, filled answer; slices of numbers that the program owns. -/
import Derived.Test.YtphocklnhoakcaaDoorRef1
import Derived.Laws.AppendOwn
import Derived.Great.BuildSlice
namespace Go.Proofs.YtphocklnhoakcaaDoor
set_option maxRecDepth 10000
open Go.RowKit
set_option linter.unusedVariables false
theorem or_swap (N : BitVec 32) (k : Nat) (h1 : 1 ≤ k) (h2 : k ≤ 31) : bits .or .u32 (↑N.toNat / 2 ^ k) (↑N.toNat * 2 ^ (32 - k) % 4294967296) = ((rl N (-(k : Int))).toNat : Int) := by
  have h3 : ((N.toNat : Int) * 2 ^ (32 - k) % 4294967296) = ((N.toNat <<< (32 - k) % 2 ^ 32 : Nat) : Int) := by
    rw [Nat.shiftLeft_eq, Int.natCast_emod, Int.natCast_mul, Int.natCast_pow, Int.natCast_pow]
    exact congrArg _ (by decide)
  have h4 : ((N.toNat : Int) / 2 ^ k) = ((N.toNat >>> k : Nat) : Int) := by
    rw [Nat.shiftRight_eq_div_pow, Int.natCast_ediv, Int.natCast_pow]; rfl
  rw [h3, h4, (bits_nat .u32 32 (by decide) wraps_u32 _ _ (Nat.lt_of_le_of_lt (Nat.shiftRight_le _ _) N.isLt) (Nat.mod_lt _ (by decide))).2]
  rw [show rl N (-(k : Int)) = N.rotateLeft (32 - k) by rw [rl]; congr 1; omega, BitVec.toNat_rotateLeft, Nat.mod_eq_of_lt (show 32 - k < 32 by omega), show 32 - (32 - k) = k by omega, Nat.or_comm]
theorem right_any (N : BitVec 32) (k : Nat) (h1 : 1 ≤ k) (h2 : k ≤ 31) (w : World) :
    Calls Tryd.prog 58 #[.int .u32 N.toNat, .int .i64 k] w fun e w' => e = .returned (.int .u32 (rl N (-(k : Int))).toNat) ∧ ∃ m, w' = w.drewN m := by
  have hor := or_swap N k h1 h2
  go_enter Tryd.func58, Tryd.ntmps58
  go_wp2_with fail
  go_quiet (fail)
  go_wp2_with fail
  go_ret
  exact ⟨rfl, nq, rfl⟩
/-! ### A slice of numbers that the program owns -/
def Own (w : World) (B : Nat) (v : Value) (l : List (BitVec 32)) : Prop := w.ownsRow B 105 1 v l.length (c32 l)
theorem Own.below {w w' : World} {B : Nat} {v : Value} {l : List (BitVec 32)} (h : Own w B v l) (hb : Below w.heap.size w w') : Own w' B v l := by
  refine ⟨h.1, ?_⟩
  rcases h.2 with hn | ⟨g, cap, cur, rfl, hg, hgg, rest⟩
  · exact .inl hn
  · exact .inr ⟨g, cap, cur, rfl, hg, (hb.block g (Array.getElem?_eq_some_iff.1 hgg).1).trans hgg, rest⟩
theorem Own.blk {w : World} {B : Nat} {v : Value} {l : List (BitVec 32)} (h : Own w B v l) (hl : l ≠ []) :
    ∃ g cap sp, v = .slice (some ⟨g, 0, none⟩) l.length cap ∧ B ≤ g ∧ l.length ≤ cap ∧ cap ≤ 9223372036854775807 ∧ sp.length + l.length = cap ∧ Blk w g (c32 l ++ sp) 105 := by
  rcases h.2 with ⟨_, hn⟩ | ⟨g, cap, cur, rfl, hg, hgg, h1, h2, h3, h4⟩
  · exact absurd (List.eq_nil_of_length_eq_zero hn) hl
  · rw [Nat.mul_one] at h3 h4
    refine ⟨g, cap, cur.toList.drop l.length, rfl, hg, h1, h2, ?_, ?_⟩
    · rw [List.length_drop, Array.length_toList]; omega
    · rw [← h4, List.take_append_drop]; exact hgg
theorem Own.of {w : World} {B g cap : Nat} {l : List (BitVec 32)} {sp : List Value} (hB : B ≤ g) (hc : sp.length + l.length = cap) (hm : cap ≤ 9223372036854775807) (h : Blk w g (c32 l ++ sp) 105) : Own w B (.slice (some ⟨g, 0, none⟩) l.length cap) l := by
  refine ⟨by rw [c32_length, Nat.mul_one], .inr ⟨g, cap, (c32 l ++ sp).toArray, rfl, hB, h, by omega, hm, ?_, ?_⟩⟩
  · rw [List.size_toArray, List.length_append, c32_length]; omega
  · rw [Nat.mul_one, List.take_left' (c32_length l)]
theorem Own.up {w : World} {B C : Nat} {v : Value} {l : List (BitVec 32)} (h : Own w B v l) (hC : C ≤ B) : Own w C v l := by
  refine ⟨h.1, ?_⟩
  rcases h.2 with hn | ⟨g, cap, cur, e, hg, rest⟩
  · exact .inl hn
  · exact .inr ⟨g, cap, cur, e, by omega, rest⟩
theorem row_cell {w : World} {g : Nat} {l : List (BitVec 32)} {sp : List Value} (h : Blk w g (c32 l ++ sp) 105) (j : Nat) (hj : j < l.length) : w.cell? ⟨g, j, none⟩ = some (.int .u32 ((l.getD j 0).toNat : Int)) := by
  refine h.cell j _ ?_
  rw [List.getElem?_append_left (by rw [c32_length]; exact hj), c32_at l j hj]
theorem row_set {w : World} {g : Nat} {l : List (BitVec 32)} {sp : List Value} (h : Blk w g (c32 l ++ sp) 105) (j : Nat) (x : BitVec 32) (hj : j < l.length) :
    Turn g w (w.setCell ⟨g, j, none⟩ (.int .u32 x.toNat)) ∧ Blk (w.setCell ⟨g, j, none⟩ (.int .u32 x.toNat)) g (c32 (l.set j x) ++ sp) 105 := by
  obtain ⟨t1, t2⟩ := turn_setCell w g j (.int .u32 x.toNat) _ 105 h
  rw [List.set_append_left _ _ (by rw [c32_length]; exact hj), c32_set] at t2
  exact ⟨t1, t2⟩
section
variable {P : Program} {ops : Array Oper} {Q : Exit → Act → World → Prop} {a : Act} {w : World} {rest : List Oper} {dst : Option Tmp} {ty : TypeId} {pos : String} {aft : Array Edge}
theorem at_append {x y : Operand} {ts : Array TypeId} (h : wpList P ops Q (⟨dst, .call { callee := .builtin .append, args := #[x, y], argTypes := ts }, ty, pos, aft, none⟩ :: rest) a w) : wpList P ops Q (⟨dst, .call { callee := .builtin .append, args := #[x, y], argTypes := ts }, ty, pos, aft, none⟩ :: rest) a w := h
theorem at_build {t : TypeId} {ps : Array (Nat × Operand)} (n : Nat) (h : wpList P ops Q (⟨dst, .buildSlice t n ps, ty, pos, aft, none⟩ :: rest) a w) : wpList P ops Q (⟨dst, .buildSlice t n ps, ty, pos, aft, none⟩ :: rest) a w := h
end
theorem info105 : (Tryd.prog.info? 105).map (fun i => (i.zero, i.size, i.bytes)) = some (some (.int .u32 0), 1, 4) := by kernel_rfl
/-- 'append(v, x...)', v owned. -/
theorem run_app {w : World} (ty : TypeId) (B : Nat) (v : Value) (l news : List (BitVec 32)) (ho : Own w B v l) (b o m c : Nat) (hm : news.length = m)
    (hn : ∀ j, j < m → w.cell? ⟨b, o + j, none⟩ = some (.int .u32 ((news.getD j 0).toNat : Int))) (hs : l.length + m ≤ 100000) (hB : B ≤ w.heap.size) :
    ∃ v' w', (Builtin.append_ #[106, 106] ty #[v, .slice (some ⟨b, o, none⟩) m c]).run Tryd.prog w = .ok v' w' ∧ Own w' B v' (l ++ news) ∧ Below B w w' := by
  obtain ⟨i, hi, he⟩ : ∃ i, Tryd.prog.info? 105 = some i ∧ (i.zero, i.size, i.bytes) = (some (.int .u32 0), 1, 4) := by
    have h := info105
    cases hi : Tryd.prog.info? 105 with
    | none => rw [hi] at h; cases h
    | some i => rw [hi] at h; exact ⟨i, rfl, Option.some.inj h⟩
  obtain ⟨v', w', h1, h2, h3, -⟩ := run_append_own (P := Tryd.prog) w B 106 ty 105 i (.int .u32 0) 1 4 Tryd.underlying106 hi (congrArg (·.1) he) (congrArg (·.2.1) he) (congrArg (·.2.2) he) rfl (by decide) v l.length (c32 l) ho
    ⟨b, o, none⟩ m c (c32 news) (by rw [c32_length, Nat.mul_one, hm]) (fun j u hu => by
      have hj : j < m := by have := (List.getElem?_eq_some_iff.1 hu).1; rw [c32_length] at this; omega
      rw [c32_at news j (by omega)] at hu
      rw [Addr.add_mid, hn j hj, ← hu]) (c32_one _) (by show _ ≤ 9223372036854775807; omega) (by omega) hB
  refine ⟨v', w', h1, ?_, ⟨h3.os, h3.tape, h3.output, h3.size, fun k hk => h3.block k (by omega) (fun e => ?_)⟩⟩
  · have e : c32 l ++ c32 news = c32 (l ++ news) := by simp [c32]
    rw [e, ← hm, ← List.length_append] at h2
    exact h2
  · have := (ho.lt k e.symm).1
    omega
theorem L_app {ops : Array Oper} {Q : Exit → Act → World → Prop} {a : Act} {w : World} {rest : List Oper} {dst : Option Tmp} {ty : TypeId} {pos : String} {aft : Array Edge} (x y : Operand) (B : Nat) (v : Value) (l news : List (BitVec 32))
    (hx : a.eval x = v) (ho : Own w B v l) (b o m c : Nat) (hy : a.eval y = .slice (some ⟨b, o, none⟩) m c) (hm : news.length = m)
    (hn : ∀ j, j < m → w.cell? ⟨b, o + j, none⟩ = some (.int .u32 ((news.getD j 0).toNat : Int))) (hs : l.length + m ≤ 100000) (hB : B ≤ w.heap.size)
    (h : ∀ v' w', Own w' B v' (l ++ news) → Below B w w' → wpList Tryd.prog ops Q rest (a.put dst v') w') :
    wpList Tryd.prog ops Q (⟨dst, .call { callee := .builtin .append, args := #[x, y], argTypes := #[106, 106] }, ty, pos, aft, none⟩ :: rest) a w := by
  obtain ⟨v', w', hr, h1, h2⟩ := run_app ty B v l news ho b o m c hm hn hs hB
  refine wpList_plain rfl fun K hK => ?_
  unfold Oper.wp execOp
  simp only [resolve, invoke, builtin, Sem.run_bind, Sem.run_pure, Result.andThen_ok, List.map_toArray, List.map_cons, List.map_nil, hx, hy, hr]
  exact hK _ _ (h v' w' h1 h2)
theorem run_build1 (w : World) (x : BitVec 32) : (Instr.buildSlice 106 1 #[(0, .int .u32 x.toNat)]).run Tryd.prog w = .ok (.slice (some ⟨w.heap.size, 0, none⟩) 1 1) (w.alloc (.cells #[.int .u32 x.toNat] 105)) := by
  go_simp
theorem run_build0 (w : World) : (Instr.buildSlice 106 0 #[]).run Tryd.prog w = .ok (.slice (some ⟨w.heap.size, 0, none⟩) 0 0) (w.alloc (.cells #[] 105)) := by
  go_simp
theorem size105 : (Tryd.prog.info? 105).map (·.size) = some 1 := by kernel_rfl
theorem some31 : ((Tryd.prog.info? 105).bind (·.zero)).isSome = true := by kernel_rfl
/-- A slice of numbers, written out. -/
theorem L_flat {ops : Array Oper} {Q : Exit → Act → World → Prop} {a : Act} {w : World} {rest : List Oper} {dst : Option Tmp} {ty : TypeId} {pos : String} {aft : Array Edge} (len : Nat) (parts : Array (Nat × Operand)) (l : List (BitVec 32)) (hl : len = l.length) (h0 : 0 < len) (h1 : len ≤ 100000)
    (hparts : parts.toList = ((l.map fun x => (x.toNat : Int)).zipIdx 0).map fun x => (x.2, Operand.const (Value.int .u32 x.1)))
    (h : ∀ w', Turn w.heap.size w w' → Blk w' w.heap.size (c32 l) 105 → wpList Tryd.prog ops Q rest (a.put dst (.slice (some ⟨w.heap.size, 0, none⟩) len len)) w') :
    wpList Tryd.prog ops Q (⟨dst, .buildSlice 106 len parts, ty, pos, aft, none⟩ :: rest) a w := by
  have e : (l.map fun x => (x.toNat : Int)).map (Value.int .u32) = c32 l := by simp [c32]
  refine wpList_buildFlat rfl 106 105 len parts rfl .u32 (l.map fun x => (x.toNat : Int)) Tryd.underlying106 size105 some31 (by simp [hl]) h0 (by omega) hparts ?_
  rw [e]
  obtain ⟨h2, h3⟩ := turn_alloc w (c32 l) 105
  exact h _ h2 h3
theorem L_build1 {ops : Array Oper} {Q : Exit → Act → World → Prop} {a : Act} {w : World} {rest : List Oper} {dst : Option Tmp} {ty : TypeId} {pos : String} {aft : Array Edge} (y : Operand) (x : BitVec 32) (hy : a.eval y = .int .u32 x.toNat)
    (h : ∀ w', Turn w.heap.size w w' → Blk w' w.heap.size (c32 [x]) 105 → wpList Tryd.prog ops Q rest (a.put dst (.slice (some ⟨w.heap.size, 0, none⟩) 1 1)) w') :
    wpList Tryd.prog ops Q (⟨dst, .buildSlice 106 1 #[(0, y)], ty, pos, aft, none⟩ :: rest) a w := by
  refine wpList_plain rfl fun K hK => ?_
  unfold Oper.wp execOp
  simp only [List.map_toArray, List.map_cons, List.map_nil, hy, Sem.run_bind, run_build1, Result.andThen_ok, Sem.run_pure]
  obtain ⟨h2, h3⟩ := turn_alloc w (c32 [x]) 105
  exact hK _ _ (h _ h2 h3)
theorem L_build0 {ops : Array Oper} {Q : Exit → Act → World → Prop} {a : Act} {w : World} {rest : List Oper} {dst : Option Tmp} {ty : TypeId} {pos : String} {aft : Array Edge}
    (h : ∀ w', Turn w.heap.size w w' → Blk w' w.heap.size (c32 []) 105 → wpList Tryd.prog ops Q rest (a.put dst (.slice (some ⟨w.heap.size, 0, none⟩) 0 0)) w') :
    wpList Tryd.prog ops Q (⟨dst, .buildSlice 106 0 #[], ty, pos, aft, none⟩ :: rest) a w := by
  refine wpList_plain rfl fun K hK => ?_
  unfold Oper.wp execOp
  simp only [List.map_toArray, List.map_nil, Sem.run_bind, run_build0, Result.andThen_ok, Sem.run_pure]
  obtain ⟨h2, h3⟩ := turn_alloc w (c32 []) 105
  exact hK _ _ (h _ h2 h3)
set_option maxRecDepth 100000 in
theorem constants_any (w : World) :
    Calls Tryd.prog 55 #[] w fun e w' => e = .returned (.slice (some ⟨w.heap.size, 0, none⟩) 64 64) ∧ Turn w.heap.size w w' ∧ Blk w' w.heap.size (c32 kon) 105 := by
  go_enter Tryd.func55, Tryd.ntmps55
  go_wp2_with (first
    | ((with_reducible refine at_build 64 ?_); refine L_flat 64 _ kon rfl (by decide) (by decide) (by kernel_rfl) ?_; intro w1 h1 hb1))
  go_ret
  exact ⟨rfl, h1, hb1⟩
theorem append_toList (a b : ByteArray) : (a ++ b).data.toList = a.data.toList ++ b.data.toList := by
  rw [ByteArray.data_append, Array.toList_append]
set_option maxHeartbeats 400000 in
theorem filled_any (T : ByteArray) (w : World) (hT : T.size ≤ 1000000) :
    Calls Tryd.prog 56 #[.string T] w fun e w' => e = .returned (.string ⟨(filled T.data.toList).toArray⟩) ∧ Below w.heap.size w w' := by
  obtain ⟨z, hz⟩ : ∃ z, 63 - (T.size + 8) % 64 = z := ⟨_, rfl⟩
  go_enter Tryd.func56, Tryd.ntmps56
  go_wp2_with fail
  go_loop [3] (fun x => ∃ (j : Nat) (S : ByteArray), j ≤ z ∧ x = .string S ∧ S.size = T.size + 1 + j ∧ Hid (S.data.toList = T.data.toList ++ 128 :: List.replicate j 0)) (fun x => T.size + 1 + z - szOf x)
  case atStart => exact ⟨0, _, by omega, rfl, by rw [ByteArray.size_append]; rfl, by show _ = _; rw [append_toList]; rfl⟩
  case round =>
    obtain ⟨j, S, hj, rfl, hS, hSl⟩ := hrel
    by_cases hlt : j < z
    · have hne : ¬ ((S.size : Int) % 64 = 56) := by omega
      go_wp2_with fail
      refine ⟨⟨j + 1, S ++ ⟨#[0]⟩, by omega, rfl, by rw [ByteArray.size_append, hS]; rfl, ?_⟩, ?_⟩
      · show _ = _
        rw [append_toList, hSl.out, List.append_assoc, List.cons_append, List.replicate_succ']
      · show T.size + 1 + z - (S ++ ⟨#[0]⟩).size < T.size + 1 + z - S.size
        rw [ByteArray.size_append, hS, show (⟨#[0]⟩ : ByteArray).size = 1 from rfl]
        omega
    · have hne : (S.size : Int) % 64 = 56 := by omega
      go_wp2_with fail
      have hp := rput_any (8 * T.size) 8 8 w (.inr (.inl ⟨by omega, by omega, rfl⟩)) (by omega)
      rw [show (((8 * T.size : Nat)) : Int) = 8 * (T.size : Int) by omega] at hp
      obtain ⟨X, hX⟩ : ∃ X : ByteArray, (⟨(putL (8 * T.size) 8).toArray⟩ : ByteArray) = X := ⟨_, rfl⟩
      have hXs : X.size = 8 := by rw [← hX, Lib.size_eq]; exact putL_length _ _
      have HX : Hid (X.data.toList = putL (8 * T.size) 8) := by show _ = _; rw [← hX]
      rw [hX] at hp
      clear hX
      refine hp.mono ?_; rintro e w1 ⟨rfl, hb1⟩
      go_wp2_with fail
      go_ret
      refine ⟨?_, hb1⟩
      refine ret_string ?_
      apply ByteArray.ext; apply Array.toList_inj.1
      rw [append_toList, hSl.out, HX.out, filled, fillB, ← Lib.size_eq, show j = 63 - (T.size + 8) % 64 by omega]
end Go.Proofs.YtphocklnhoakcaaDoor
