/- Slices of numbers and of bools as arguments, rows of keys in memory, and what is read of them. -/
import Derived.Test.YtdfpnicpcndkjaaDoorAwake
import Derived.Deep.Slices
import Derived.WalkKit
import Derived.WalkSpells
import Derived.WalkLawsBesides
namespace Go.Proofs.YtdfpnicpcndkjaaDoor
set_option maxRecDepth 10000
open Go Go.RowKit
set_option linter.unusedVariables false
set_option linter.unusedSimpArgs false

/-- A slice of values of one cell each, in memory. -/
def LV (w : World) (ao : Option Addr) (n : Nat) (vs : Nat → Value) : Prop :=
  ∀ j, j < n → ∃ b o, ao = some ⟨b, o, none⟩ ∧ w.cell? ⟨b, o + j, none⟩ = some (vs j)
theorem LV.on {u w : World} {L : List HP} {ao : Option Addr} {n : Nat} {vs : Nat → Value} (h : LV u ao n vs) (hM : Ms u w L) : LV w ao n vs := fun j hj => by
  obtain ⟨b, o, e, hcell⟩ := h j hj
  exact ⟨b, o, e, (hM.below.cell (p := ⟨b, o + j, none⟩) (World.block_lt_of_cell? u _ hcell)).trans hcell⟩
theorem LV.at {w : World} {b o n : Nat} {vs : Nat → Value} (h : LV w (some ⟨b, o, none⟩) n vs) {j : Nat} (hj : j < n) : w.cell? ⟨b, o + j, none⟩ = some (vs j) := by
  obtain ⟨b', o', e, hcell⟩ := h j hj
  cases e
  exact hcell
theorem szof3 : ∀ w, (sizeOf 3).run Tryd.prog w = .ok 1 w := by intro w; kernel_rfl
theorem szof4 : ∀ w, (sizeOf 4).run Tryd.prog w = .ok 1 w := by intro w; kernel_rfl
/-- The cells of the first a keys of a chain of k whose last key is L. -/
def kl (k : Nat) (L : Ky) (a : Nat) : List Value := (List.range a).flatMap fun j => kc (wl (k - j) L)
theorem kl_succ (k : Nat) (L : Ky) (a : Nat) : kl k L (a + 1) = kl k L a ++ kc (wl (k - a) L) := by simp [kl, List.range_succ]
theorem kl_length (k : Nat) (L : Ky) : ∀ a, (kl k L a).length = a * 32
  | 0 => rfl
  | a + 1 => by rw [kl_succ, List.length_append, kl_length k L a, kc_length]; omega
theorem kl_at (k : Nat) (L : Ky) : ∀ (a j : Nat), j < a → ((kl k L a).drop (j * 32)).take 32 = kc (wl (k - j) L)
  | 0, j, h => by omega
  | a + 1, j, h => by
    have hl := kl_length k L a
    rw [kl_succ]
    by_cases hj : j < a
    · rw [List.drop_append_of_le_length (by omega), List.take_append_of_le_length (by rw [List.length_drop]; omega)]
      exact kl_at k L a j hj
    · obtain rfl : j = a := by omega
      rw [List.drop_append, List.drop_eq_nil_of_le (by omega), hl, Nat.sub_self, List.nil_append, List.drop_zero, List.take_of_length_le (by rw [kc_length]; omega)]
theorem key_some : (Tryd.prog.info? 23).map (fun i => (i.size, i.bytes, i.zero.map (fun z => z.cells.size))) = some (32, 32, some 32) := by kernel_rfl
theorem key_info : ∃ i z, Tryd.prog.info? 23 = some i ∧ i.zero = some z ∧ i.size = 32 ∧ i.bytes = 32 ∧ z.cells.size = 32 := by
  have h := key_some
  cases hi : Tryd.prog.info? 23 with
  | none => rw [hi] at h; cases h
  | some i =>
    rw [hi] at h
    simp only [Option.map_some, Option.some.injEq, Prod.mk.injEq] at h
    obtain ⟨h1, h2, h3⟩ := h
    cases hz : i.zero with
    | none => rw [hz] at h3; cases h3
    | some z =>
      rw [hz] at h3
      simp only [Option.map_some, Option.some.injEq] at h3
      exact ⟨i, z, rfl, hz, h1, h2, h3⟩
section
variable {dst : Option Tmp} {ty : TypeId} {pos : String} {aft : Array Edge} {gd : Option (Nat × Bool)} {a : Act} {w : World} {K : Value → World → Prop}
theorem g_bsK (y : Operand) (k : Ky) (hy : a.eval y = .agg (kc k).toArray)
    (hk : ∀ w', Turn w.heap.size w w' → Blk w' w.heap.size (kc k) 23 → K (.slice (some ⟨w.heap.size, 0, none⟩) 1 1) w') : gives Tryd.prog ⟨dst, .buildSlice 45 1 #[(0, y)], ty, pos, aft, gd⟩ a w K := by
  obtain ⟨h1, h2⟩ := turn_alloc w (kc k) 23
  have hr := run_bs 45 23 32 (kc zk) Tryd.underlying45 szof23 zeroK (by decide) (by decide) w (kc k) (kc_length k)
  exact g_val _ _ (by simp only [execOp, List.map_toArray, List.map_cons, List.map_nil, hy, Sem.run_bind, hr, Result.andThen_ok, Sem.run_pure]) (hk _ h1 h2)
theorem g_apK {w0 : World} {R : List HP} (x y : Operand) (v : Value) (n : Nat) (xs : List Value) (b : Nat) (k : Ky) (hx : a.eval x = v) (hy : a.eval y = .slice (some ⟨b, 0, none⟩) 1 1) (h : Ms w0 w (row 23 32 v n xs :: blk b (kc k) 23 :: R))
    (hn : n ≤ 1000) (hk : ∀ v' w', Ms w0 w' (row 23 32 v' (n + 1) (xs ++ kc k) :: blk b (kc k) 23 :: R) → K v' w') : gives Tryd.prog ⟨dst, .call { callee := .builtin .append, args := #[x, y], argTypes := #[45, 45] }, ty, pos, aft, gd⟩ a w K := by
  obtain ⟨i, z, h1, h2, h3, h4, h5⟩ := key_info
  exact g_apR x y 45 23 32 i z 32 Tryd.underlying45 h1 h2 h3 h4 h5 v n xs b 1 (kc k) 23 hx hy h (kc_length k) (one_kc k) (by omega) (by omega) hk
/-- An element of a row of keys. -/
theorem g_ldRow {w0 : World} {R : List HP} (x : Operand) (g n cap j o : Nat) (xs : List Value) (k : Ky) (hx : a.eval x = .pointer (some ⟨g, o, none⟩)) (ho : 0 + j * 32 = o) (h : Ms w0 w (row 23 32 (.slice (some ⟨g, 0, none⟩) n cap) n xs :: R)) (hj : j < n) (hr : (xs.drop (j * 32)).take 32 = kc k)
    (hk : K (.agg (kc k).toArray) w) : gives Tryd.prog ⟨dst, .load 23 x, ty, pos, aft, gd⟩ a w K := by
  obtain ⟨g', cap', cs, hv, hG, hl, h1, h2, h3, h4⟩ := row_at h (by omega)
  cases hv
  have e := row_cells h4 j hj
  have hle : n * 32 ≤ cap * 32 := Nat.mul_le_mul_right _ h1
  have hj2 : (j + 1) * 32 ≤ n * 32 := Nat.mul_le_mul_right _ hj
  subst ho
  exact g_load 23 x g (0 + j * 32) 32 cs 23 _ hx (hG.get 0 rfl) Tryd.underlying23 rfl size23 (by omega) (kc k) (by rw [Nat.zero_add, e, hr]) hk
end
end Go.Proofs.YtdfpnicpcndkjaaDoor
