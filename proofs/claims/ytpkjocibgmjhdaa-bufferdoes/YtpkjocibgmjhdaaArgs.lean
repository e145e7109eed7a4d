/- Slices of texts, bools, bytes and acts as arguments: opened. -/
import Derived.Test.YtpkjocibgmjhdaaAwake
import Derived.OpenShut
import Derived.ShutString
import Derived.Deep.Slices
import Derived.Carry
import Derived.SizedLaws
namespace Go.Proofs.Ytpkjocibgmjhdaa
open Go Go.RowKit Go.ChangeShapes Go.WideShapes
set_option linter.unusedVariables false
set_option linter.unusedSimpArgs false
theorem wf_i64 (n : Int) (h : (Lit.int .i64 n).wf = true) : -9223372036854775808 ≤ n ∧ n ≤ 9223372036854775807 := by
  simp [Lit.wf, IntKind.min, IntKind.max, IntKind.signed, IntKind.bits] at h
  omega
theorem wf_u16 (n : Int) (h : (Lit.int .u16 n).wf = true) : 0 ≤ n ∧ n < 65536 := by
  simp [Lit.wf, IntKind.min, IntKind.max, IntKind.signed, IntKind.bits] at h
  omega
theorem wf_u8 (n : Int) (h : (Lit.int .u8 n).wf = true) : 0 ≤ n ∧ n < 256 := by
  simp [Lit.wf, IntKind.min, IntKind.max, IntKind.signed, IntKind.bits] at h
  omega
/-- A slice of values of one cell each, in memory; each is as it may be. -/
def LV (Ok : Value → Prop) (w : World) (ao : Option Addr) (n : Nat) : Prop := ∀ j, j < n → ∃ b o v, ao = some ⟨b, o, none⟩ ∧ w.cell? ⟨b, o + j, none⟩ = some v ∧ Ok v
def OkS (v : Value) : Prop := ∃ s, v = .string s
def OkB (v : Value) : Prop := ∃ b, v = .bool b
def OkU (v : Value) : Prop := ∃ c : Int, v = .int .u8 c ∧ 0 ≤ c ∧ c < 256
theorem LV.on {Ok : Value → Prop} {u w : World} {L : List HP} {ao : Option Addr} {n : Nat} (h : LV Ok u ao n) (hM : Ms u w L) : LV Ok w ao n := fun j hj => by
  obtain ⟨b, o, v, e, hcell, hv⟩ := h j hj
  exact ⟨b, o, v, e, (hM.below.cell (p := ⟨b, o + j, none⟩) (World.block_lt_of_cell? u _ hcell)).trans hcell, hv⟩
/-- A slice of acts, in memory. -/
def LA (w : World) (ao : Option Addr) (n : Nat) : Prop := ∀ j, j < n → ∃ b o k i s, ao = some ⟨b, o, none⟩ ∧ w.cell? ⟨b, o + j * 3, none⟩ = some (.int .i64 k) ∧ w.cell? ⟨b, o + j * 3 + 1, none⟩ = some (.int .i64 i) ∧ w.cell? ⟨b, o + j * 3 + 2, none⟩ = some (.string s) ∧ i ≤ 9223372036854775807
theorem LA.on {u w : World} {L : List HP} {ao : Option Addr} {n : Nat} (h : LA u ao n) (hM : Ms u w L) : LA w ao n := fun j hj => by
  obtain ⟨b, o, k, i, s, e, h0, h1, h2, h3⟩ := h j hj
  have hb := World.block_lt_of_cell? u _ h0
  exact ⟨b, o, k, i, s, e, (hM.below.cell (p := ⟨b, o + j * 3, none⟩) hb).trans h0, (hM.below.cell (p := ⟨b, o + j * 3 + 1, none⟩) hb).trans h1, (hM.below.cell (p := ⟨b, o + j * 3 + 2, none⟩) hb).trans h2, h3⟩
theorem cells9 : Try.prog.cellsOf 9 = 1 := by kernel_rfl
theorem cells3 : Try.prog.cellsOf 3 = 1 := by kernel_rfl
theorem cells4 : Try.prog.cellsOf 4 = 1 := by kernel_rfl
theorem cells5 : Try.prog.cellsOf 5 = 1 := by kernel_rfl
theorem cells32 : Try.prog.cellsOf 32 = 3 := by kernel_rfl
variable {H : Type} {enc : TypeId × Value → H} {w : World}
theorem row_lt {a : Addr} {m s : Nat} {Pl : Nat → List MemPlace} (h0 : 0 < m → a.block < w.heap.size) (hP : ∀ i, i < m → Pl i = []) : ∀ x ∈ MemPlace.row a (m * s) ++ (List.range m).flatMap Pl, x.block < w.heap.size := by
  intro x hx
  rcases List.mem_append.1 hx with hx | hx
  · simp only [MemPlace.row, List.mem_map, List.mem_range] at hx
    obtain ⟨i, hi, rfl⟩ := hx
    have hm : 0 < m := by
      rcases Nat.eq_zero_or_pos m with e | e
      · subst e; omega
      · exact e
    exact h0 hm
  · obtain ⟨i, hi, hx⟩ := List.mem_flatMap.1 hx
    rw [hP i (List.mem_range.1 hi)] at hx
    cases hx
theorem open_ones {t e : TypeId} (Ok : Value → Prop) (ht : Try.prog.underlying t = some (.slice e)) (hc : Try.prog.cellsOf e = 1) (hE : ∀ (n : Nat) (v : Value) (d : DataW H) (ps : List MemPlace), DataW.trod enc Try.prog w 0 (fun _ => true) true n e [v] = some (d, ps) → Ok v ∧ ps = [])
    {r : Reach} {b0 : Nat} {v : Value} {d : DataW H} {p : List MemPlace} (hv : Value.okWide Try.prog w r b0 t v) (h : DataW.Trod enc Try.prog w 0 (fun _ => true) true t v d p) :
    ∃ (ao : Option Addr) (n cap : Nat), v = .slice ao n cap ∧ LV Ok w ao n ∧ (∀ x ∈ p, x.block < w.heap.size) ∧ n ≤ cap ∧ cap ≤ maxLen := by
  obtain ⟨ao, n, cap, rfl⟩ := okWide_slice ht hv
  obtain ⟨fuel, hf⟩ := h
  rcases Go.Deep.open_slice1 ht hc hf with ⟨hcs, hx⟩ | ⟨a, len, cap', m, k, V, D, Pl, hcs, _, hl, hm, hz, hx, hV⟩
  · simp [Value.cells] at hcs
    obtain ⟨rfl, rfl, rfl⟩ := hcs
    simp only [Prod.mk.injEq] at hx
    obtain ⟨rfl, rfl⟩ := hx
    exact ⟨none, 0, 0, rfl, fun j hj => by omega, (fun x hx => by cases hx), Nat.le_refl _, Nat.zero_le _⟩
  · simp [Value.cells] at hcs
    obtain ⟨rfl, rfl, rfl⟩ := hcs
    simp only [Prod.mk.injEq] at hx
    obtain ⟨rfl, rfl⟩ := hx
    simp only [if_true] at hz
    subst hz
    refine ⟨some a, n, m, rfl, fun j hj => ?_, ?_, hl, hm⟩
    · obtain ⟨b, o, spot⟩ := a
      have hspot : spot = none := by simpa [Addr.add] using World.cell?_spot (hV 0 (by omega)).1
      subst hspot
      have h1 := (hV j (by omega)).1
      rw [Addr.add_lit] at h1
      exact ⟨b, o, V j, rfl, h1, (hE _ _ _ _ (hV j (by omega)).2).1⟩
    · have := row_lt (w := w) (a := a) (m := m) (s := 1) (Pl := Pl) (fun h0 => by
        have := World.block_lt_of_cell? w _ (hV 0 h0).1
        rw [show (a.add 0).block = a.block by unfold Addr.add; split <;> rfl] at this
        exact this) (fun i hi => (hE _ _ _ _ (hV i hi).2).2)
      rw [Nat.mul_one] at this
      exact this
theorem open_strs {r : Reach} {b0 : Nat} {v : Value} {d : DataW H} {p : List MemPlace} (hv : Value.okWide Try.prog w r b0 36 v) (h : DataW.Trod enc Try.prog w 0 (fun _ => true) true 36 v d p) :
    ∃ (ao : Option Addr) (n cap : Nat), v = .slice ao n cap ∧ LV OkS w ao n ∧ (∀ x ∈ p, x.block < w.heap.size) ∧ n ≤ cap ∧ cap ≤ maxLen :=
  open_ones OkS Try.underlying36 cells9 (fun n v d ps h => by
    obtain ⟨s, h1, h2, _⟩ := DataW.trod_string Try.underlying9 h
    exact ⟨⟨s, by simpa using h1⟩, (Prod.mk.inj h2).2⟩) hv h
theorem open_bools {r : Reach} {b0 : Nat} {v : Value} {d : DataW H} {p : List MemPlace} (hv : Value.okWide Try.prog w r b0 51 v) (h : DataW.Trod enc Try.prog w 0 (fun _ => true) true 51 v d p) :
    ∃ (ao : Option Addr) (n cap : Nat), v = .slice ao n cap ∧ LV OkB w ao n ∧ (∀ x ∈ p, x.block < w.heap.size) ∧ n ≤ cap ∧ cap ≤ maxLen :=
  open_ones OkB Try.underlying51 cells4 (fun n v d ps h => by
    obtain ⟨s, h1, h2⟩ := DataW.trod_bool Try.underlying4 h
    exact ⟨⟨s, by simpa using h1⟩, (Prod.mk.inj h2).2⟩) hv h
theorem open_u8s {r : Reach} {b0 : Nat} {v : Value} {d : DataW H} {p : List MemPlace} (hv : Value.okWide Try.prog w r b0 55 v) (h : DataW.Trod enc Try.prog w 0 (fun _ => true) true 55 v d p) :
    ∃ (ao : Option Addr) (n cap : Nat), v = .slice ao n cap ∧ LV OkU w ao n ∧ (∀ x ∈ p, x.block < w.heap.size) ∧ n ≤ cap ∧ cap ≤ maxLen :=
  open_ones OkU Try.underlying55 cells5 (fun n v d ps h => by
    obtain ⟨c, h1, h2, h3⟩ := DataW.trod_int Try.underlying5 h
    exact ⟨⟨c, by simpa using h1, wf_u8 c h3⟩, (Prod.mk.inj h2).2⟩) hv h
theorem open_acts {r : Reach} {b0 : Nat} {v : Value} {d : DataW H} {p : List MemPlace} (hv : Value.okWide Try.prog w r b0 22 v) (h : DataW.Trod enc Try.prog w 0 (fun _ => true) true 22 v d p) :
    ∃ (ao : Option Addr) (n cap : Nat), v = .slice ao n cap ∧ LA w ao n ∧ (∀ x ∈ p, x.block < w.heap.size) ∧ n ≤ cap ∧ cap ≤ maxLen := by
  obtain ⟨ao, n, cap, rfl⟩ := okWide_slice Try.underlying22 hv
  obtain ⟨fuel, hf⟩ := h
  rcases Go.Deep.open_slice Try.underlying22 hf with ⟨hcs, hx⟩ | ⟨a, len, cap', m, k, D, Pl, hcs, _, hl, hm, hz, hx, hV⟩
  · simp [Value.cells] at hcs
    obtain ⟨rfl, rfl, rfl⟩ := hcs
    simp only [Prod.mk.injEq] at hx
    obtain ⟨rfl, rfl⟩ := hx
    exact ⟨none, 0, 0, rfl, fun j hj => by omega, (fun x hx => by cases hx), Nat.le_refl _, Nat.zero_le _⟩
  · simp [Value.cells] at hcs
    obtain ⟨rfl, rfl, rfl⟩ := hcs
    simp only [Prod.mk.injEq] at hx
    obtain ⟨rfl, rfl⟩ := hx
    simp only [if_true] at hz
    subst hz
    have each : ∀ i, i < m → Pl i = [] ∧ ∃ kk ii ss, w.cell? (a.add (i * 3)) = some (.int .i64 kk) ∧ w.cell? (a.add (i * 3 + 1)) = some (.int .i64 ii) ∧ w.cell? (a.add (i * 3 + 2)) = some (.string ss) ∧ ii ≤ 9223372036854775807 := by
      intro i hi
      obtain ⟨cs', h1, h2⟩ := hV i hi
      rw [cells32] at h1
      obtain ⟨_, hlen, hcell⟩ := World.cells?_some h1
      obtain ⟨xs, k', hk, hxy, _, hxl, hg⟩ := DataW.trod_struct Try.underlying32 h2
      match xs, hxl, cs', hlen with
      | [y0, y1, y2], _, [v0, v1, v2], _ =>
        have g0 := hg 0 _ rfl
        have g1 := hg 1 _ rfl
        have g2 := hg 2 _ rfl
        simp [cells3, cells9] at g0 g1 g2
        obtain ⟨k0, c0, rfl, _⟩ := DataW.trod_int Try.underlying3 g0
        obtain ⟨k1, c1, rfl, b1⟩ := DataW.trod_int Try.underlying3 g1
        obtain ⟨k2, c2, rfl, _⟩ := DataW.trod_string Try.underlying9 g2
        have e0 := hcell 0 (by omega)
        have e1 := hcell 1 (by omega)
        have e2 := hcell 2 (by omega)
        rw [Go.Deep.add_add] at e0 e1 e2
        simp only [List.cons.injEq, and_true] at c0 c1 c2
        subst c0; subst c1; subst c2
        simp only [Prod.mk.injEq] at hxy
        exact ⟨by rw [hxy.2]; rfl, k0, k1, k2, by simpa using e0, by simpa using e1, by simpa using e2, (wf_i64 k1 b1).2⟩
    refine ⟨some a, n, m, rfl, fun j hj => ?_, ?_, hl, hm⟩
    · obtain ⟨b, o, spot⟩ := a
      have hspot : spot = none := by
        obtain ⟨_, kk, ii, ss, h0, _⟩ := each 0 (by omega)
        simpa [Addr.add] using World.cell?_spot h0
      subst hspot
      obtain ⟨_, kk, ii, ss, h0, h1, h2, h3⟩ := each j (by omega)
      rw [Addr.add_mid] at h0 h1 h2
      exact ⟨b, o, kk, ii, ss, rfl, h0, by rw [Nat.add_assoc]; exact h1, by rw [Nat.add_assoc]; exact h2, h3⟩
    · rw [cells32]
      exact row_lt (fun h0 => by
        obtain ⟨_, kk, ii, ss, h1, _⟩ := each 0 h0
        have := World.block_lt_of_cell? w _ h1
        rw [show (a.add (0 * 3)).block = a.block by unfold Addr.add; split <;> rfl] at this
        exact this) (fun i hi => (each i hi).1)
end Go.Proofs.Ytpkjocibgmjhdaa
