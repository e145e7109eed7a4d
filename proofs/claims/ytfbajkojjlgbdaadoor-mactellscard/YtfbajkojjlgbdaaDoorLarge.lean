/- What the laws' large answers: is any of these texts longer than 300 bytes? And slices of texts, written out. -/
import Derived.Test.YtfbajkojjlgbdaaDoorMacW5
namespace Go.Proofs.YtfbajkojjlgbdaaDoor
open Go.RowKit
set_option linter.unusedVariables false

/-- A slice of texts, in memory. -/
def Lies (w : World) (ao : Option Addr) (n : Nat) (ss : List ByteArray) : Prop :=
  ∀ j, j < n → ∃ b o, ao = some ⟨b, o, none⟩ ∧ w.cell? ⟨b, o + j, none⟩ = some (.string (ss.getD j ByteArray.empty))
def largeB (ss : List ByteArray) : Bool := ss.any fun s => decide (300 < s.size)
theorem large_true (ss : List ByteArray) (j : Nat) (hj : j < ss.length) (h : 300 < (ss.getD j ByteArray.empty).size) : largeB ss = true := by
  unfold largeB
  rw [List.any_eq_true]
  refine ⟨ss.getD j ByteArray.empty, ?_, by simpa using h⟩
  simp [hj]
theorem large_take (ss : List ByteArray) (j : Nat) (hj : j < ss.length) (h : largeB (ss.take j) = false) (h2 : ¬ 300 < (ss.getD j ByteArray.empty).size) : largeB (ss.take (j + 1)) = false := by
  unfold largeB at *
  have e : ss[j] = ss.getD j ByteArray.empty := by simp [hj]
  rw [List.take_succ_eq_append_getElem hj, List.any_append, h, e]
  simpa using h2
theorem large_not {ss : List ByteArray} (h : largeB ss = false) {s : ByteArray} (hs : s ∈ ss) : s.size ≤ 300 := by
  unfold largeB at h
  rw [List.any_eq_false] at h
  have := h s hs
  simpa using this
set_option maxHeartbeats 1000000 in
theorem large_any (ao : Option Addr) (n cap : Nat) (ss : List ByteArray) (hl : ss.length = n) (hn : n ≤ 9223372036854775807) (u : World) (hc : Lies u ao n ss) :
    Calls Tryd.prog 10 #[.slice ao n cap] u fun e w' => e = .returned (.bool (largeB ss)) ∧ Below u.heap.size u w' := by
  go_enter Tryd.func10, Tryd.ntmps10
  go_wp2_with fail
  go_loop [6] (fun i => ∃ j : Nat, j ≤ n ∧ i = .int .i64 j ∧ Hid (largeB (ss.take j) = false)) (fun i => n - (intOf i).toNat)
  case atStart => exact ⟨0, by omega, rfl, rfl⟩
  case round =>
    obtain ⟨j, hj, rfl, hz⟩ := hrel
    by_cases hlt : j < n
    · obtain ⟨b, o, rfl, hcell⟩ := hc j hlt
      have ht : Hid (300 < (ss.getD j ByteArray.empty).size → largeB ss = true) := large_true ss j (by omega)
      have hs : Hid (¬ 300 < (ss.getD j ByteArray.empty).size → largeB (ss.take (j + 1)) = false) := large_take ss j (by omega) hz.out
      generalize ss.getD j ByteArray.empty = p at *
      by_cases hp : 300 < p.size
      · go_wp2_with fail
        go_ret
        exact ⟨ret_bool (ht.out hp).symm, Below.refl _ _⟩
      · go_wp2_with fail
        exact ⟨⟨j + 1, by omega, by go_num, hs.out hp⟩, by simp [intOf]; omega⟩
    · have hd : decide ((j : Int) < (n : Int)) = false := by simp; omega
      have hf : Hid (false = largeB ss) := by show _ = _; rw [← hz.out, List.take_of_length_le (by omega)]
      go_wp2_with fail
      go_ret
      exact ⟨ret_bool hf.out, Below.refl _ _⟩
theorem run_strs2 (w : World) (a b : ByteArray) : (Instr.buildSlice 31 2 #[(0, .string a), (1, .string b)]).run Tryd.prog w = .ok (.slice (some ⟨w.heap.size, 0, none⟩) 2 2) (w.alloc (.cells #[.string a, .string b] 9)) := by
  go_simp
theorem run_strs3 (w : World) (a b c : ByteArray) : (Instr.buildSlice 31 3 #[(0, .string a), (1, .string b), (2, .string c)]).run Tryd.prog w = .ok (.slice (some ⟨w.heap.size, 0, none⟩) 3 3) (w.alloc (.cells #[.string a, .string b, .string c] 9)) := by
  go_simp
theorem run_strs1 (w : World) (a : ByteArray) : (Instr.buildSlice 31 1 #[(0, .string a)]).run Tryd.prog w = .ok (.slice (some ⟨w.heap.size, 0, none⟩) 1 1) (w.alloc (.cells #[.string a] 9)) := by
  go_simp
theorem at_strs {P : Program} {ops : Array Oper} {rest : List Oper} {a : Act} {w : World} {Q : Exit → Act → World → Prop} {dst : Option Tmp} {ty : TypeId} {pos : String} {aft : Array Edge} {ps : Array (Nat × Operand)} (t : TypeId) (n : Nat) (h : wpList P ops Q (⟨dst, .buildSlice t n ps, ty, pos, aft, none⟩ :: rest) a w) : wpList P ops Q (⟨dst, .buildSlice t n ps, ty, pos, aft, none⟩ :: rest) a w := h
theorem lies_blk {w : World} {b : Nat} {t : TypeId} (ss : List ByteArray) (h : Blk w b (ss.map Value.string) t) : Lies w (some ⟨b, 0, none⟩) ss.length ss := fun j hj => by
  refine ⟨b, 0, rfl, ?_⟩
  rw [Nat.zero_add]
  exact h.cell j _ (by simp [hj])
section
variable {ops : Array Oper} {Q : Exit → Act → World → Prop} {a : Act} {w : World} {rest : List Oper} {dst : Option Tmp} {ty : TypeId} {pos : String} {aft : Array Edge}
theorem L_strs1 (x : Operand) (p : ByteArray) (hx : a.eval x = .string p)
    (h : ∀ w', Turn w.heap.size w w' → Blk w' w.heap.size ([p].map Value.string) 9 → wpList Tryd.prog ops Q rest (a.put dst (.slice (some ⟨w.heap.size, 0, none⟩) 1 1)) w') :
    wpList Tryd.prog ops Q (⟨dst, .buildSlice 31 1 #[(0, x)], ty, pos, aft, none⟩ :: rest) a w := by
  refine wpList_plain rfl fun K hK => ?_
  unfold Oper.wp execOp
  simp only [List.map_toArray, List.map_cons, List.map_nil, hx, Sem.run_bind, run_strs1, Result.andThen_ok, Sem.run_pure]
  obtain ⟨h2, h3⟩ := turn_alloc w ([p].map Value.string) 9
  exact hK _ _ (h _ h2 h3)
theorem L_strs2 (x y : Operand) (p q : ByteArray) (hx : a.eval x = .string p) (hy : a.eval y = .string q)
    (h : ∀ w', Turn w.heap.size w w' → Blk w' w.heap.size ([p, q].map Value.string) 9 → wpList Tryd.prog ops Q rest (a.put dst (.slice (some ⟨w.heap.size, 0, none⟩) 2 2)) w') :
    wpList Tryd.prog ops Q (⟨dst, .buildSlice 31 2 #[(0, x), (1, y)], ty, pos, aft, none⟩ :: rest) a w := by
  refine wpList_plain rfl fun K hK => ?_
  unfold Oper.wp execOp
  simp only [List.map_toArray, List.map_cons, List.map_nil, hx, hy, Sem.run_bind, run_strs2, Result.andThen_ok, Sem.run_pure]
  obtain ⟨h2, h3⟩ := turn_alloc w ([p, q].map Value.string) 9
  exact hK _ _ (h _ h2 h3)
theorem L_strs3 (x y z : Operand) (p q r : ByteArray) (hx : a.eval x = .string p) (hy : a.eval y = .string q) (hz : a.eval z = .string r)
    (h : ∀ w', Turn w.heap.size w w' → Blk w' w.heap.size ([p, q, r].map Value.string) 9 → wpList Tryd.prog ops Q rest (a.put dst (.slice (some ⟨w.heap.size, 0, none⟩) 3 3)) w') :
    wpList Tryd.prog ops Q (⟨dst, .buildSlice 31 3 #[(0, x), (1, y), (2, z)], ty, pos, aft, none⟩ :: rest) a w := by
  refine wpList_plain rfl fun K hK => ?_
  unfold Oper.wp execOp
  simp only [List.map_toArray, List.map_cons, List.map_nil, hx, hy, hz, Sem.run_bind, run_strs3, Result.andThen_ok, Sem.run_pure]
  obtain ⟨h2, h3⟩ := turn_alloc w ([p, q, r].map Value.string) 9
  exact hK _ _ (h _ h2 h3)
end
theorem large1 (p : ByteArray) (b : Nat) (u : World) (h : Blk u b ([p].map Value.string) 9) :
    Calls Tryd.prog 10 #[.slice (some ⟨b, 0, none⟩) 1 1] u fun e w' => e = .returned (.bool (largeB [p])) ∧ Below u.heap.size u w' := large_any _ 1 1 [p] rfl (by decide) u (lies_blk [p] h)
theorem large2 (p q : ByteArray) (b : Nat) (u : World) (h : Blk u b ([p, q].map Value.string) 9) :
    Calls Tryd.prog 10 #[.slice (some ⟨b, 0, none⟩) 2 2] u fun e w' => e = .returned (.bool (largeB [p, q])) ∧ Below u.heap.size u w' := large_any _ 2 2 [p, q] rfl (by decide) u (lies_blk [p, q] h)
theorem large3 (p q r : ByteArray) (b : Nat) (u : World) (h : Blk u b ([p, q, r].map Value.string) 9) :
    Calls Tryd.prog 10 #[.slice (some ⟨b, 0, none⟩) 3 3] u fun e w' => e = .returned (.bool (largeB [p, q, r])) ∧ Below u.heap.size u w' := large_any _ 3 3 [p, q, r] rfl (by decide) u (lies_blk [p, q, r] h)
end Go.Proofs.YtfbajkojjlgbdaaDoor
