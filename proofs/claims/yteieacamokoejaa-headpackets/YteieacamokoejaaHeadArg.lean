/- A head, an extension, and a slice of extensions, as arguments: opened. -/
import Derived.Test.YteieacamokoejaaLawA
import Derived.OpenShut
import Derived.ShutString
import Derived.Deep.SlicePairs
import Derived.Carry
import Derived.SizedLaws
namespace Go.Proofs.Yteieacamokoejaa
open Go Go.RowKit Go.ChangeShapes Go.WideShapes
set_option linter.unusedVariables false
set_option linter.unusedSimpArgs false
variable {H : Type} {enc : TypeId × Value → H} {w : World} {base : Nat} {spare : Nat → Bool} {held : Bool}
theorem wf_i64 (n : Int) (h : (Lit.int .i64 n).wf = true) : In64 n := by
  simp [Lit.wf, IntKind.min, IntKind.max, IntKind.signed, IntKind.bits] at h
  unfold In64; omega
theorem wf_u32 (n : Int) (h : (Lit.int .u32 n).wf = true) : InU32 n := by
  simp [Lit.wf, IntKind.min, IntKind.max, IntKind.signed, IntKind.bits] at h
  unfold InU32; omega
theorem wf_u64 (n : Int) (h : (Lit.int .u64 n).wf = true) : InU64 n := by
  simp [Lit.wf, IntKind.min, IntKind.max, IntKind.signed, IntKind.bits] at h
  unfold InU64; omega
theorem wf_u16 (n : Int) (h : (Lit.int .u16 n).wf = true) : 0 ≤ n ∧ n < 65536 := by
  simp [Lit.wf, IntKind.min, IntKind.max, IntKind.signed, IntKind.bits] at h
  omega
theorem wf_u8 (n : Int) (h : (Lit.int .u8 n).wf = true) : 0 ≤ n ∧ n < 256 := by
  simp [Lit.wf, IntKind.min, IntKind.max, IntKind.signed, IntKind.bits] at h
  omega
theorem cellsH : Try.prog.cellsOf 26 = 13 := by kernel_rfl
theorem cellsF : Try.prog.cellsOf 48 = 2 := by kernel_rfl
theorem cells3 : Try.prog.cellsOf 3 = 1 := by kernel_rfl
theorem cells9 : Try.prog.cellsOf 9 = 1 := by kernel_rfl
theorem cells22 : Try.prog.cellsOf 22 = 1 := by kernel_rfl
theorem cells24 : Try.prog.cellsOf 24 = 1 := by kernel_rfl
theorem bytesF : Try.prog.bytesOf 48 = 24 := by kernel_rfl
theorem flat13 {α : Type} (xs : List (DataW α × List MemPlace)) (h : ∀ x ∈ xs, x.2 = []) : (xs.flatMap fun x => x.2) = [] := by
  rw [List.flatMap_eq_nil_iff]; exact h
theorem open_head {r : Reach} {b0 : Nat} {v : Value} {d : DataW H} {p : List MemPlace} (hv : Value.okWide Try.prog w r b0 26 v) (h : DataW.Trod enc Try.prog w base spare held 26 v d p) : ∃ g : Hd, v = .agg (hc g).toArray ∧ p = [] ∧ InH g := by
  simp only [Value.okWide, Try.underlying26] at hv
  obtain ⟨cs, rfl, _, _⟩ := hv
  obtain ⟨fuel, hf⟩ := h
  obtain ⟨xs, m, _, hx, hl, hlen, hg⟩ := DataW.trod_struct Try.underlying26 hf
  match xs, hlen with
  | [y0, y1, y2, y3, y4, y5, y6, y7, y8, y9, y10, y11, y12], _ =>
    obtain ⟨k0, c0, rfl, g0⟩ := DataW.trod_int Try.underlying3 (hg 0 _ rfl)
    obtain ⟨k1, c1, rfl, g1⟩ := DataW.trod_int Try.underlying3 (hg 1 _ rfl)
    obtain ⟨k2, c2, rfl, g2⟩ := DataW.trod_int Try.underlying3 (hg 2 _ rfl)
    obtain ⟨k3, c3, rfl, g3⟩ := DataW.trod_int Try.underlying3 (hg 3 _ rfl)
    obtain ⟨k4, c4, rfl, g4⟩ := DataW.trod_int Try.underlying3 (hg 4 _ rfl)
    obtain ⟨k5, c5, rfl, g5⟩ := DataW.trod_int Try.underlying3 (hg 5 _ rfl)
    obtain ⟨k6, c6, rfl, g6⟩ := DataW.trod_int Try.underlying22 (hg 6 _ rfl)
    obtain ⟨k7, c7, rfl, g7⟩ := DataW.trod_int Try.underlying22 (hg 7 _ rfl)
    obtain ⟨k8, c8, rfl, g8⟩ := DataW.trod_int Try.underlying22 (hg 8 _ rfl)
    obtain ⟨k9, c9, rfl, g9⟩ := DataW.trod_int Try.underlying24 (hg 9 _ rfl)
    obtain ⟨k10, c10, rfl, g10⟩ := DataW.trod_int Try.underlying24 (hg 10 _ rfl)
    obtain ⟨k11, c11, rfl, g11⟩ := DataW.trod_int Try.underlying24 (hg 11 _ rfl)
    obtain ⟨k12, c12, rfl, g12⟩ := DataW.trod_int Try.underlying24 (hg 12 _ rfl)
    rw [cellsH] at hl
    replace c0 : ((Value.agg cs).cells.toList.drop 0).take (Try.prog.cellsOf 3) = [.int .i64 k0] := c0
    replace c1 : ((Value.agg cs).cells.toList.drop 1).take (Try.prog.cellsOf 3) = [.int .i64 k1] := c1
    replace c2 : ((Value.agg cs).cells.toList.drop 2).take (Try.prog.cellsOf 3) = [.int .i64 k2] := c2
    replace c3 : ((Value.agg cs).cells.toList.drop 3).take (Try.prog.cellsOf 3) = [.int .i64 k3] := c3
    replace c4 : ((Value.agg cs).cells.toList.drop 4).take (Try.prog.cellsOf 3) = [.int .i64 k4] := c4
    replace c5 : ((Value.agg cs).cells.toList.drop 5).take (Try.prog.cellsOf 3) = [.int .i64 k5] := c5
    replace c6 : ((Value.agg cs).cells.toList.drop 6).take (Try.prog.cellsOf 22) = [.int .u32 k6] := c6
    replace c7 : ((Value.agg cs).cells.toList.drop 7).take (Try.prog.cellsOf 22) = [.int .u32 k7] := c7
    replace c8 : ((Value.agg cs).cells.toList.drop 8).take (Try.prog.cellsOf 22) = [.int .u32 k8] := c8
    replace c9 : ((Value.agg cs).cells.toList.drop 9).take (Try.prog.cellsOf 24) = [.int .u64 k9] := c9
    replace c10 : ((Value.agg cs).cells.toList.drop 10).take (Try.prog.cellsOf 24) = [.int .u64 k10] := c10
    replace c11 : ((Value.agg cs).cells.toList.drop 11).take (Try.prog.cellsOf 24) = [.int .u64 k11] := c11
    replace c12 : ((Value.agg cs).cells.toList.drop 12).take (Try.prog.cellsOf 24) = [.int .u64 k12] := c12
    simp only [cells3, cells22, cells24] at c0 c1 c2 c3 c4 c5 c6 c7 c8 c9 c10 c11 c12
    have hcs : (Value.agg cs).cells.toList = hc ⟨k0, k1, k2, k3, k4, k5, k6, k7, k8, k9, k10, k11, k12⟩ := by
      generalize (Value.agg cs).cells.toList = l at hl c0 c1 c2 c3 c4 c5 c6 c7 c8 c9 c10 c11 c12
      match l, hl with
      | [a0, a1, a2, a3, a4, a5, a6, a7, a8, a9, a10, a11, a12], _ =>
        simp at c0 c1 c2 c3 c4 c5 c6 c7 c8 c9 c10 c11 c12
        rw [c0, c1, c2, c3, c4, c5, c6, c7, c8, c9, c10, c11, c12]; rfl
    refine ⟨⟨k0, k1, k2, k3, k4, k5, k6, k7, k8, k9, k10, k11, k12⟩, ?_, ?_, ⟨wf_i64 _ g0, wf_i64 _ g1, wf_i64 _ g2, wf_i64 _ g3, wf_i64 _ g4, wf_i64 _ g5, wf_u32 _ g6, wf_u32 _ g7, wf_u32 _ g8, wf_u64 _ g9, wf_u64 _ g10, wf_u64 _ g11, wf_u64 _ g12⟩⟩
    · congr 1
      apply Array.toList_inj.1
      simpa [Value.cells] using hcs
    · simp only [Prod.mk.injEq] at hx
      rw [hx.2]; rfl
theorem open_field {r : Reach} {b0 : Nat} {v : Value} {d : DataW H} {p : List MemPlace} (hv : Value.okWide Try.prog w r b0 48 v) (h : DataW.Trod enc Try.prog w base spare held 48 v d p) : ∃ f : Int × ByteArray, v = .agg (fc f).toArray ∧ p = [] ∧ In64 f.1 := by
  simp only [Value.okWide, Try.underlying48] at hv
  obtain ⟨cs, rfl, _, _⟩ := hv
  obtain ⟨fuel, hf⟩ := h
  obtain ⟨xs, m, _, hx, hl, hlen, hg⟩ := DataW.trod_struct Try.underlying48 hf
  match xs, hlen with
  | [y0, y1], _ =>
    obtain ⟨k0, c0, rfl, g0⟩ := DataW.trod_int Try.underlying3 (hg 0 _ rfl)
    obtain ⟨k1, c1, rfl, _⟩ := DataW.trod_string Try.underlying9 (hg 1 _ rfl)
    rw [cellsF] at hl
    replace c0 : ((Value.agg cs).cells.toList.drop 0).take (Try.prog.cellsOf 3) = [.int .i64 k0] := c0
    replace c1 : ((Value.agg cs).cells.toList.drop 1).take (Try.prog.cellsOf 9) = [.string k1] := c1
    simp only [cells3, cells9] at c0 c1
    have hcs : (Value.agg cs).cells.toList = fc (k0, k1) := by
      generalize (Value.agg cs).cells.toList = l at hl c0 c1
      match l, hl with
      | [a0, a1], _ => simp at c0 c1; rw [c0, c1]; rfl
    refine ⟨(k0, k1), ?_, ?_, wf_i64 _ g0⟩
    · congr 1
      apply Array.toList_inj.1
      simpa [Value.cells] using hcs
    · simp only [Prod.mk.injEq] at hx
      rw [hx.2]; rfl
def strOf : Value → ByteArray
  | .string s => s
  | _ => ByteArray.empty
theorem open_fields {r : Reach} {b0 : Nat} {v : Value} {d : DataW H} {p : List MemPlace} (hv : Value.okWide Try.prog w r b0 35 v) (h : DataW.Trod enc Try.prog w 0 (fun _ => true) true 35 v d p) :
    ∃ (ao : Option Addr) (cap : Nat) (l : List (Int × ByteArray)), v = .slice ao l.length cap ∧ Fis w (.slice ao l.length cap) l ∧ (∀ x ∈ p, x.block < w.heap.size) ∧ (l = [] ∨ ∃ n ∈ DataW.weights Try.prog 35 d, l.length * 24 ≤ n) ∧ l.length ≤ cap ∧ (ao = none → cap = 0) := by
  obtain ⟨ao, n, cap, rfl⟩ := okWide_slice Try.underlying35 hv
  obtain ⟨fuel, hf⟩ := h
  rcases Deep.open_slice_pairs Try.underlying35 Try.underlying48 cellsF rfl rfl cells3 cells9 hf with ⟨hcs, hx⟩ | ⟨a, len, cap', m, q, V0, V1, D0, D1, P0, P1, hcs, _, hlc, hmx, hm, hx, hcell⟩
  · simp [Value.cells] at hcs
    obtain ⟨rfl, rfl, rfl⟩ := hcs
    simp only [Prod.mk.injEq] at hx
    obtain ⟨rfl, rfl⟩ := hx
    exact ⟨none, 0, [], rfl, Fis.nil w, (fun x hx => by cases hx), Or.inl rfl, Nat.le_refl _, fun _ => rfl⟩
  · simp [Value.cells] at hcs
    obtain ⟨rfl, rfl, rfl⟩ := hcs
    simp only [if_true] at hm
    subst hm
    simp only [Prod.mk.injEq] at hx
    obtain ⟨rfl, rfl⟩ := hx
    have each : ∀ i, i < m → V0 i = .int .i64 (intOf (V0 i)) ∧ V1 i = .string (strOf (V1 i)) ∧ P0 i = [] ∧ P1 i = [] := by
      intro i hi
      obtain ⟨_, _, h0, h1⟩ := hcell i hi
      obtain ⟨k0, c0, e0, g0⟩ := DataW.trod_int Try.underlying3 h0
      obtain ⟨k1, c1, e1, _⟩ := DataW.trod_string Try.underlying9 h1
      simp only [List.cons.injEq, and_true] at c0 c1
      simp only [Prod.mk.injEq] at e0 e1
      rw [c0, c1, e0.2, e1.2]
      exact ⟨rfl, rfl, rfl, rfl⟩
    have hll : ((List.range n).map fun i => (intOf (V0 i), strOf (V1 i))).length = n := by simp
    refine ⟨some a, m, (List.range n).map fun i => (intOf (V0 i), strOf (V1 i)), by rw [hll], ?_, ?_, .inr ?_, by rw [hll]; exact hlc, (fun h => by cases h)⟩
    · refine ⟨some a, m, rfl, fun j hj => ?_⟩
      rw [hll] at hj
      obtain ⟨c0, c1, _, _⟩ := hcell j (by omega)
      obtain ⟨e0, e1, _⟩ := each j (by omega)
      have c00 := (hcell 0 (by omega)).1
      obtain ⟨b, o, spot⟩ := a
      have hspot : spot = none := by simpa [Addr.add] using World.cell?_spot c00
      subst hspot
      rw [Addr.add_mid] at c0 c1
      refine ⟨b, o, rfl, ?_, ?_⟩
      · rw [c0, e0]; simp [intOf]
      · rw [show o + j * 2 + 1 = o + (j * 2 + 1) by omega, c1, e1]; simp [strOf]
    · intro x hx
      rcases List.mem_append.1 hx with hx | hx
      · simp only [MemPlace.row, List.mem_map, List.mem_range] at hx
        obtain ⟨i, hi, rfl⟩ := hx
        have hb := World.block_lt_of_cell? w _ (hcell 0 (by omega)).1
        have e : ∀ k, (a.add k).block = a.block := fun k => by unfold Addr.add; split <;> rfl
        rw [e] at hb
        exact hb
      · obtain ⟨i, hi, hx⟩ := List.mem_flatMap.1 hx
        obtain ⟨_, _, e0, e1⟩ := each i (List.mem_range.1 hi)
        rw [e0, e1] at hx
        simp at hx
    · refine ⟨(n + (m - n)) * 24, ?_, by rw [hll]; omega⟩
      simp only [DataW.weights, Try.underlying35, List.length_map, List.length_range, bytesF]
      exact List.mem_cons_self
end Go.Proofs.Yteieacamokoejaa
