/- Plans, slices of texts, bools and bytes as arguments: opened. -/
import Derived.Test.YtcclcemdodoiiaaGreatDoorQSdOps
import Derived.Test.YtcclcemdodoiiaaGreatDoorQLaid
import Derived.Test.YtcclcemdodoiiaaGreatDoorQLib
import Derived.OpenShut
import Derived.ShutString
import Derived.Deep.Slices
import Derived.Carry
import Derived.SizedLaws
namespace Go.Proofs.YtcclcemdodoiiaaGreatDoor
set_option maxRecDepth 10000
open Go Go.RowKit Go.ChangeShapes Go.WideShapes
set_option linter.unusedVariables false
set_option linter.unusedSimpArgs false
theorem wf_i64 (n : Int) (h : (Lit.int .i64 n).wf = true) : -9223372036854775808 ≤ n ∧ n ≤ 9223372036854775807 := by
  simp [Lit.wf, IntKind.min, IntKind.max, IntKind.signed, IntKind.bits] at h
  omega
theorem wf_u16 (n : Int) (h : (Lit.int .u16 n).wf = true) : 0 ≤ n ∧ n < 65536 := by
  simp [Lit.wf, IntKind.min, IntKind.max, IntKind.signed, IntKind.bits] at h
  omega
/-- A slice of values of one cell each, in memory; each is as it may be. -/
def LV (Ok : Value → Prop) (w : World) (ao : Option Addr) (n : Nat) : Prop := ∀ j, j < n → ∃ b o v, ao = some ⟨b, o, none⟩ ∧ w.cell? ⟨b, o + j, none⟩ = some v ∧ Ok v
def OkS (v : Value) : Prop := ∃ s, v = .string s
def OkB (v : Value) : Prop := ∃ b, v = .bool b
theorem LV.on {Ok : Value → Prop} {u w : World} {L : List HP} {ao : Option Addr} {n : Nat} (h : LV Ok u ao n) (hM : Ms u w L) : LV Ok w ao n := fun j hj => by
  obtain ⟨b, o, v, e, hcell, hv⟩ := h j hj
  exact ⟨b, o, v, e, (hM.below.cell (p := ⟨b, o + j, none⟩) (World.block_lt_of_cell? u _ hcell)).trans hcell, hv⟩
theorem celA2 : Tryz.prog.cellsOf 2 = 1 := by kernel_rfl
theorem celA3 : Tryz.prog.cellsOf 3 = 1 := by kernel_rfl
theorem celA4 : Tryz.prog.cellsOf 4 = 1 := by kernel_rfl
theorem celA9 : Tryz.prog.cellsOf 9 = 1 := by kernel_rfl
theorem celA25 : Tryz.prog.cellsOf 25 = 4 := by kernel_rfl
variable {H : Type} {enc : TypeId × Value → H} {w : World}
theorem row_lt {a : Addr} {m s : Nat} {Pl : Nat → List MemPlace} (h0 : 0 < m → a.block < w.heap.size) (hP : ∀ i, i < m → Pl i = []) : ∀ x ∈ MemPlace.row a (m * s) ++ (List.range m).flatMap Pl, x.block < w.heap.size := by
  intro x hx
  rcases List.mem_append.1 hx with hx | hx
  · simp only [MemPlace.row, List.mem_map, List.mem_range] at hx
    obtain ⟨i, hi, rfl⟩ := hx
    have hm : 0 < m := by
      rcases Nat.eq_zero_or_pos m with e | e
      · subst e; omega
      · exact e
    exact h0 hm
  · obtain ⟨i, hi, hx⟩ := List.mem_flatMap.1 hx
    rw [hP i (List.mem_range.1 hi)] at hx
    cases hx
theorem open_ones {t e : TypeId} (Ok : Value → Prop) (ht : Tryz.prog.underlying t = some (.slice e)) (hc : Tryz.prog.cellsOf e = 1) (hE : ∀ (n : Nat) (v : Value) (d : DataW H) (ps : List MemPlace), DataW.trod enc Tryz.prog w 0 (fun _ => true) true n e [v] = some (d, ps) → Ok v ∧ ps = [])
    {r : Reach} {b0 : Nat} {v : Value} {d : DataW H} {p : List MemPlace} (hv : Value.okWide Tryz.prog w r b0 t v) (h : DataW.Trod enc Tryz.prog w 0 (fun _ => true) true t v d p) :
    ∃ (ao : Option Addr) (n cap : Nat), v = .slice ao n cap ∧ LV Ok w ao n ∧ (∀ x ∈ p, x.block < w.heap.size) ∧ n ≤ cap ∧ cap ≤ maxLen := by
  obtain ⟨ao, n, cap, rfl⟩ := okWide_slice ht hv
  obtain ⟨fuel, hf⟩ := h
  rcases Go.Deep.open_slice1 ht hc hf with ⟨hcs, hx⟩ | ⟨a, len, cap', m, k, V, D, Pl, hcs, _, hl, hm, hz, hx, hV⟩
  · simp [Value.cells] at hcs
    obtain ⟨rfl, rfl, rfl⟩ := hcs
    simp only [Prod.mk.injEq] at hx
    obtain ⟨rfl, rfl⟩ := hx
    exact ⟨none, 0, 0, rfl, fun j hj => by omega, (fun x hx => by cases hx), Nat.le_refl _, Nat.zero_le _⟩
  · simp [Value.cells] at hcs
    obtain ⟨rfl, rfl, rfl⟩ := hcs
    simp only [Prod.mk.injEq] at hx
    obtain ⟨rfl, rfl⟩ := hx
    simp only [if_true] at hz
    subst hz
    refine ⟨some a, n, m, rfl, fun j hj => ?_, ?_, hl, hm⟩
    · obtain ⟨b, o, spot⟩ := a
      have hspot : spot = none := by simpa [Addr.add] using World.cell?_spot (hV 0 (by omega)).1
      subst hspot
      have h1 := (hV j (by omega)).1
      rw [Addr.add_lit] at h1
      exact ⟨b, o, V j, rfl, h1, (hE _ _ _ _ (hV j (by omega)).2).1⟩
    · have := row_lt (w := w) (a := a) (m := m) (s := 1) (Pl := Pl) (fun h0 => by
        have := World.block_lt_of_cell? w _ (hV 0 h0).1
        rw [show (a.add 0).block = a.block by unfold Addr.add; split <;> rfl] at this
        exact this) (fun i hi => (hE _ _ _ _ (hV i hi).2).2)
      rw [Nat.mul_one] at this
      exact this
theorem open_strs {r : Reach} {b0 : Nat} {v : Value} {d : DataW H} {p : List MemPlace} (hv : Value.okWide Tryz.prog w r b0 59 v) (h : DataW.Trod enc Tryz.prog w 0 (fun _ => true) true 59 v d p) :
    ∃ (ao : Option Addr) (n cap : Nat), v = .slice ao n cap ∧ LV OkS w ao n ∧ (∀ x ∈ p, x.block < w.heap.size) ∧ n ≤ cap ∧ cap ≤ maxLen :=
  open_ones OkS Tryz.underlying59 celA9 (fun n v d ps h => by
    obtain ⟨s, h1, h2, _⟩ := DataW.trod_string Tryz.underlying9 h
    exact ⟨⟨s, by simpa using h1⟩, (Prod.mk.inj h2).2⟩) hv h
theorem open_bools {r : Reach} {b0 : Nat} {v : Value} {d : DataW H} {p : List MemPlace} (hv : Value.okWide Tryz.prog w r b0 83 v) (h : DataW.Trod enc Tryz.prog w 0 (fun _ => true) true 83 v d p) :
    ∃ (ao : Option Addr) (n cap : Nat), v = .slice ao n cap ∧ LV OkB w ao n ∧ (∀ x ∈ p, x.block < w.heap.size) ∧ n ≤ cap ∧ cap ≤ maxLen :=
  open_ones OkB Tryz.underlying83 celA4 (fun n v d ps h => by
    obtain ⟨s, h1, h2⟩ := DataW.trod_bool Tryz.underlying4 h
    exact ⟨⟨s, by simpa using h1⟩, (Prod.mk.inj h2).2⟩) hv h
variable {base : Nat} {spare : Nat → Bool} {held : Bool}
theorem open_plan {r : Reach} {b0 : Nat} {v : Value} {d : DataW H} {p : List MemPlace} (hv : Value.okWide Tryz.prog w r b0 25 v) (h : DataW.Trod enc Tryz.prog w base spare held 25 v d p) : ∃ P : Pl, v = .agg (plc P).toArray ∧ p = [] ∧ PIn P := by
  simp only [Value.okWide, Tryz.underlying25] at hv
  obtain ⟨cs, rfl, _, _⟩ := hv
  obtain ⟨fuel, hf⟩ := h
  obtain ⟨xs, m, _, hx, hl, hlen, hg⟩ := DataW.trod_struct Tryz.underlying25 hf
  match xs, hlen with
  | [y0, y1, y2, y3], _ =>
    obtain ⟨k0, c0, rfl, g0⟩ := DataW.trod_int Tryz.underlying2 (hg 0 _ rfl)
    obtain ⟨k1, c1, rfl, g1⟩ := DataW.trod_int Tryz.underlying2 (hg 1 _ rfl)
    obtain ⟨k2, c2, rfl, g2⟩ := DataW.trod_int Tryz.underlying3 (hg 2 _ rfl)
    obtain ⟨k3, c3, rfl, g3⟩ := DataW.trod_int Tryz.underlying3 (hg 3 _ rfl)
    rw [celA25] at hl
    replace c0 : ((Value.agg cs).cells.toList.drop 0).take (Tryz.prog.cellsOf 2) = [.int .i64 k0] := c0
    replace c1 : ((Value.agg cs).cells.toList.drop 1).take (Tryz.prog.cellsOf 2) = [.int .i64 k1] := c1
    replace c2 : ((Value.agg cs).cells.toList.drop 2).take (Tryz.prog.cellsOf 3) = [.int .i64 k2] := c2
    replace c3 : ((Value.agg cs).cells.toList.drop 3).take (Tryz.prog.cellsOf 3) = [.int .i64 k3] := c3
    simp only [celA2, celA3] at c0 c1 c2 c3
    have hcs : (Value.agg cs).cells.toList = plc ⟨k0, k1, k2, k3⟩ := by
      generalize (Value.agg cs).cells.toList = l at hl c0 c1 c2 c3
      match l, hl with
      | [a0, a1, a2, a3], _ =>
        simp at c0 c1 c2 c3
        rw [c0, c1, c2, c3]; rfl
    refine ⟨⟨k0, k1, k2, k3⟩, ?_, ?_, ⟨wf_i64 _ g0, wf_i64 _ g1, wf_i64 _ g2, wf_i64 _ g3⟩⟩
    · congr 1
      apply Array.toList_inj.1
      simpa [Value.cells] using hcs
    · simp only [Prod.mk.injEq] at hx
      rw [hx.2]; rfl
end Go.Proofs.YtcclcemdodoiiaaGreatDoor
