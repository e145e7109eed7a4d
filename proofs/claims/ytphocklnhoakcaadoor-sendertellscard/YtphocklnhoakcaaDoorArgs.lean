/- Plans, packets, slices of calls and of bytes as arguments: opened. -/
import Derived.Test.YtphocklnhoakcaaDoorAwake
import Derived.Test.YtphocklnhoakcaaDoorBas
import Derived.OpenShut
import Derived.ShutString
import Derived.Deep.Slices
import Derived.Carry
import Derived.SizedLaws
namespace Go.Proofs.YtphocklnhoakcaaDoor
set_option maxRecDepth 10000
open Go Go.RowKit Go.ChangeShapes Go.WideShapes
set_option linter.unusedVariables false
set_option linter.unusedSimpArgs false
theorem wf_i64 (n : Int) (h : (Lit.int .i64 n).wf = true) : -9223372036854775808 ≤ n ∧ n ≤ 9223372036854775807 := by
  simp [Lit.wf, IntKind.min, IntKind.max, IntKind.signed, IntKind.bits] at h
  omega
theorem wf_u8 (n : Int) (h : (Lit.int .u8 n).wf = true) : 0 ≤ n ∧ n < 256 := by
  simp [Lit.wf, IntKind.min, IntKind.max, IntKind.signed, IntKind.bits] at h
  omega
/-- A slice of values of one cell each, in memory; each is as it may be. -/
def LV (Ok : Value → Prop) (w : World) (ao : Option Addr) (n : Nat) : Prop := ∀ j, j < n → ∃ b o v, ao = some ⟨b, o, none⟩ ∧ w.cell? ⟨b, o + j, none⟩ = some v ∧ Ok v
def OkU (v : Value) : Prop := ∃ c : Int, v = .int .u8 c ∧ 0 ≤ c ∧ c < 256
theorem LV.on {Ok : Value → Prop} {u w : World} {L : List HP} {ao : Option Addr} {n : Nat} (h : LV Ok u ao n) (hM : Ms u w L) : LV Ok w ao n := fun j hj => by
  obtain ⟨b, o, v, e, hcell, hv⟩ := h j hj
  exact ⟨b, o, v, e, (hM.below.cell (p := ⟨b, o + j, none⟩) (World.block_lt_of_cell? u _ hcell)).trans hcell, hv⟩
/-- A slice of calls, in memory. -/
def LC (w : World) (ao : Option Addr) (n : Nat) : Prop := ∀ j, j < n → ∃ b o t s, ao = some ⟨b, o, none⟩ ∧ w.cell? ⟨b, o + j * 2, none⟩ = some (.int .i64 t) ∧ w.cell? ⟨b, o + j * 2 + 1, none⟩ = some (.string s) ∧ (-9223372036854775808 ≤ t ∧ t ≤ 9223372036854775807)
theorem LC.on {u w : World} {L : List HP} {ao : Option Addr} {n : Nat} (h : LC u ao n) (hM : Ms u w L) : LC w ao n := fun j hj => by
  obtain ⟨b, o, t, s, e, h0, h1, h2⟩ := h j hj
  have hb := World.block_lt_of_cell? u _ h0
  exact ⟨b, o, t, s, e, (hM.below.cell (p := ⟨b, o + j * 2, none⟩) hb).trans h0, (hM.below.cell (p := ⟨b, o + j * 2 + 1, none⟩) hb).trans h1, h2⟩
theorem cells2 : Tryd.prog.cellsOf 2 = 1 := by kernel_rfl
theorem cells3 : Tryd.prog.cellsOf 3 = 1 := by kernel_rfl
theorem celA5 : Tryd.prog.cellsOf 5 = 1 := by kernel_rfl
theorem cells9 : Tryd.prog.cellsOf 9 = 1 := by kernel_rfl
theorem celA23 : Tryd.prog.cellsOf 23 = 32 := by kernel_rfl
theorem cells25 : Tryd.prog.cellsOf 25 = 4 := by kernel_rfl
theorem cells39 : Tryd.prog.cellsOf 39 = 2 := by kernel_rfl
theorem cells44 : Tryd.prog.cellsOf 44 = 36 := by kernel_rfl
variable {H : Type} {enc : TypeId × Value → H} {w : World}
theorem row_lt {a : Addr} {m s : Nat} {Pl : Nat → List MemPlace} (h0 : 0 < m → a.block < w.heap.size) (hP : ∀ i, i < m → Pl i = []) : ∀ x ∈ MemPlace.row a (m * s) ++ (List.range m).flatMap Pl, x.block < w.heap.size := by
  intro x hx
  rcases List.mem_append.1 hx with hx | hx
  · simp only [MemPlace.row, List.mem_map, List.mem_range] at hx
    obtain ⟨i, hi, rfl⟩ := hx
    have hm : 0 < m := by
      rcases Nat.eq_zero_or_pos m with e | e
      · subst e; omega
      · exact e
    exact h0 hm
  · obtain ⟨i, hi, hx⟩ := List.mem_flatMap.1 hx
    rw [hP i (List.mem_range.1 hi)] at hx
    cases hx
theorem open_ones {t e : TypeId} (Ok : Value → Prop) (ht : Tryd.prog.underlying t = some (.slice e)) (hc : Tryd.prog.cellsOf e = 1) (hE : ∀ (n : Nat) (v : Value) (d : DataW H) (ps : List MemPlace), DataW.trod enc Tryd.prog w 0 (fun _ => true) true n e [v] = some (d, ps) → Ok v ∧ ps = [])
    {r : Reach} {b0 : Nat} {v : Value} {d : DataW H} {p : List MemPlace} (hv : Value.okWide Tryd.prog w r b0 t v) (h : DataW.Trod enc Tryd.prog w 0 (fun _ => true) true t v d p) :
    ∃ (ao : Option Addr) (n cap : Nat), v = .slice ao n cap ∧ LV Ok w ao n ∧ (∀ x ∈ p, x.block < w.heap.size) ∧ n ≤ cap ∧ cap ≤ maxLen := by
  obtain ⟨ao, n, cap, rfl⟩ := okWide_slice ht hv
  obtain ⟨fuel, hf⟩ := h
  rcases Go.Deep.open_slice1 ht hc hf with ⟨hcs, hx⟩ | ⟨a, len, cap', m, k, V, D, Pl, hcs, _, hl, hm, hz, hx, hV⟩
  · simp [Value.cells] at hcs
    obtain ⟨rfl, rfl, rfl⟩ := hcs
    simp only [Prod.mk.injEq] at hx
    obtain ⟨rfl, rfl⟩ := hx
    exact ⟨none, 0, 0, rfl, fun j hj => by omega, (fun x hx => by cases hx), Nat.le_refl _, Nat.zero_le _⟩
  · simp [Value.cells] at hcs
    obtain ⟨rfl, rfl, rfl⟩ := hcs
    simp only [Prod.mk.injEq] at hx
    obtain ⟨rfl, rfl⟩ := hx
    simp only [if_true] at hz
    subst hz
    refine ⟨some a, n, m, rfl, fun j hj => ?_, ?_, hl, hm⟩
    · obtain ⟨b, o, spot⟩ := a
      have hspot : spot = none := by simpa [Addr.add] using World.cell?_spot (hV 0 (by omega)).1
      subst hspot
      have h1 := (hV j (by omega)).1
      rw [Addr.add_lit] at h1
      exact ⟨b, o, V j, rfl, h1, (hE _ _ _ _ (hV j (by omega)).2).1⟩
    · have := row_lt (w := w) (a := a) (m := m) (s := 1) (Pl := Pl) (fun h0 => by
        have := World.block_lt_of_cell? w _ (hV 0 h0).1
        rw [show (a.add 0).block = a.block by unfold Addr.add; split <;> rfl] at this
        exact this) (fun i hi => (hE _ _ _ _ (hV i hi).2).2)
      rw [Nat.mul_one] at this
      exact this
theorem open_u8s {r : Reach} {b0 : Nat} {v : Value} {d : DataW H} {p : List MemPlace} (hv : Value.okWide Tryd.prog w r b0 58 v) (h : DataW.Trod enc Tryd.prog w 0 (fun _ => true) true 58 v d p) :
    ∃ (ao : Option Addr) (n cap : Nat), v = .slice ao n cap ∧ LV OkU w ao n ∧ (∀ x ∈ p, x.block < w.heap.size) ∧ n ≤ cap ∧ cap ≤ maxLen :=
  open_ones OkU Tryd.underlying58 celA5 (fun n v d ps h => by
    obtain ⟨c, h1, h2, h3⟩ := DataW.trod_int Tryd.underlying5 h
    exact ⟨⟨c, by simpa using h1, wf_u8 c h3⟩, (Prod.mk.inj h2).2⟩) hv h
theorem open_calls {r : Reach} {b0 : Nat} {v : Value} {d : DataW H} {p : List MemPlace} (hv : Value.okWide Tryd.prog w r b0 26 v) (h : DataW.Trod enc Tryd.prog w 0 (fun _ => true) true 26 v d p) :
    ∃ (ao : Option Addr) (n cap : Nat), v = .slice ao n cap ∧ LC w ao n ∧ (∀ x ∈ p, x.block < w.heap.size) ∧ n ≤ cap ∧ cap ≤ maxLen := by
  obtain ⟨ao, n, cap, rfl⟩ := okWide_slice Tryd.underlying26 hv
  obtain ⟨fuel, hf⟩ := h
  rcases Go.Deep.open_slice Tryd.underlying26 hf with ⟨hcs, hx⟩ | ⟨a, len, cap', m, k, D, Pl, hcs, _, hl, hm, hz, hx, hV⟩
  · simp [Value.cells] at hcs
    obtain ⟨rfl, rfl, rfl⟩ := hcs
    simp only [Prod.mk.injEq] at hx
    obtain ⟨rfl, rfl⟩ := hx
    exact ⟨none, 0, 0, rfl, fun j hj => by omega, (fun x hx => by cases hx), Nat.le_refl _, Nat.zero_le _⟩
  · simp [Value.cells] at hcs
    obtain ⟨rfl, rfl, rfl⟩ := hcs
    simp only [Prod.mk.injEq] at hx
    obtain ⟨rfl, rfl⟩ := hx
    simp only [if_true] at hz
    subst hz
    have each : ∀ i, i < m → Pl i = [] ∧ ∃ tt ss, w.cell? (a.add (i * 2)) = some (.int .i64 tt) ∧ w.cell? (a.add (i * 2 + 1)) = some (.string ss) ∧ (-9223372036854775808 ≤ tt ∧ tt ≤ 9223372036854775807) := by
      intro i hi
      obtain ⟨cs', h1, h2⟩ := hV i hi
      rw [cells39] at h1
      obtain ⟨_, hlen, hcell⟩ := World.cells?_some h1
      obtain ⟨xs, k', hk, hxy, _, hxl, hg⟩ := DataW.trod_struct Tryd.underlying39 h2
      match xs, hxl, cs', hlen with
      | [y0, y1], _, [v0, v1], _ =>
        have g0 := hg 0 _ rfl
        have g1 := hg 1 _ rfl
        simp [cells2, cells9] at g0 g1
        obtain ⟨k0, c0, rfl, b0⟩ := DataW.trod_int Tryd.underlying2 g0
        obtain ⟨k1, c1, rfl, _⟩ := DataW.trod_string Tryd.underlying9 g1
        have e0 := hcell 0 (by omega)
        have e1 := hcell 1 (by omega)
        rw [Go.Deep.add_add] at e0 e1
        simp only [List.cons.injEq, and_true] at c0 c1
        subst c0; subst c1
        simp only [Prod.mk.injEq] at hxy
        exact ⟨by rw [hxy.2]; rfl, k0, k1, by simpa using e0, by simpa using e1, wf_i64 k0 b0⟩
    refine ⟨some a, n, m, rfl, fun j hj => ?_, ?_, hl, hm⟩
    · obtain ⟨b, o, spot⟩ := a
      have hspot : spot = none := by
        obtain ⟨_, tt, ss, h0, _⟩ := each 0 (by omega)
        simpa [Addr.add] using World.cell?_spot h0
      subst hspot
      obtain ⟨_, tt, ss, h0, h1, h2⟩ := each j (by omega)
      rw [Addr.add_mid] at h0 h1
      exact ⟨b, o, tt, ss, rfl, h0, by rw [Nat.add_assoc]; exact h1, h2⟩
    · rw [cells39]
      exact row_lt (fun h0 => by
        obtain ⟨_, tt, ss, h1, _⟩ := each 0 h0
        have := World.block_lt_of_cell? w _ h1
        rw [show (a.add (0 * 2)).block = a.block by unfold Addr.add; split <;> rfl] at this
        exact this) (fun i hi => (each i hi).1)
variable {base : Nat} {spare : Nat → Bool} {held : Bool}
theorem open_plan {r : Reach} {b0 : Nat} {v : Value} {d : DataW H} {p : List MemPlace} (hv : Value.okWide Tryd.prog w r b0 25 v) (h : DataW.Trod enc Tryd.prog w base spare held 25 v d p) : ∃ P : Pl, v = .agg (plc P).toArray ∧ p = [] ∧ PIn P := by
  simp only [Value.okWide, Tryd.underlying25] at hv
  obtain ⟨cs, rfl, _, _⟩ := hv
  obtain ⟨fuel, hf⟩ := h
  obtain ⟨xs, m, _, hx, hl, hlen, hg⟩ := DataW.trod_struct Tryd.underlying25 hf
  match xs, hlen with
  | [y0, y1, y2, y3], _ =>
    obtain ⟨k0, c0, rfl, g0⟩ := DataW.trod_int Tryd.underlying2 (hg 0 _ rfl)
    obtain ⟨k1, c1, rfl, g1⟩ := DataW.trod_int Tryd.underlying2 (hg 1 _ rfl)
    obtain ⟨k2, c2, rfl, g2⟩ := DataW.trod_int Tryd.underlying3 (hg 2 _ rfl)
    obtain ⟨k3, c3, rfl, g3⟩ := DataW.trod_int Tryd.underlying3 (hg 3 _ rfl)
    rw [cells25] at hl
    replace c0 : ((Value.agg cs).cells.toList.drop 0).take (Tryd.prog.cellsOf 2) = [.int .i64 k0] := c0
    replace c1 : ((Value.agg cs).cells.toList.drop 1).take (Tryd.prog.cellsOf 2) = [.int .i64 k1] := c1
    replace c2 : ((Value.agg cs).cells.toList.drop 2).take (Tryd.prog.cellsOf 3) = [.int .i64 k2] := c2
    replace c3 : ((Value.agg cs).cells.toList.drop 3).take (Tryd.prog.cellsOf 3) = [.int .i64 k3] := c3
    simp only [cells2, cells3] at c0 c1 c2 c3
    have hcs : (Value.agg cs).cells.toList = plc ⟨k0, k1, k2, k3⟩ := by
      generalize (Value.agg cs).cells.toList = l at hl c0 c1 c2 c3
      match l, hl with
      | [a0, a1, a2, a3], _ =>
        simp at c0 c1 c2 c3
        rw [c0, c1, c2, c3]; rfl
    refine ⟨⟨k0, k1, k2, k3⟩, ?_, ?_, ⟨wf_i64 _ g0, wf_i64 _ g1, wf_i64 _ g2, wf_i64 _ g3⟩⟩
    · congr 1
      apply Array.toList_inj.1
      simpa [Value.cells] using hcs
    · simp only [Prod.mk.injEq] at hx
      rw [hx.2]; rfl
theorem open_packet {r : Reach} {b0 : Nat} {v : Value} {d : DataW H} {p : List MemPlace} (hv : Value.okWide Tryd.prog w r b0 44 v) (h : DataW.Trod enc Tryd.prog w base spare held 44 v d p) : ∃ (i : Int) (x g : ByteArray) (t : Int) (k : Ky), v = .agg (pkc i x g t k).toArray ∧ p = [] := by
  simp only [Value.okWide, Tryd.underlying44] at hv
  obtain ⟨cs, rfl, _, _⟩ := hv
  obtain ⟨fuel, hf⟩ := h
  obtain ⟨xs, m, _, hx, hl, hlen, hg⟩ := DataW.trod_struct Tryd.underlying44 hf
  match xs, hlen with
  | [y0, y1, y2, y3, y4], _ =>
    obtain ⟨k0, c0, rfl, g0⟩ := DataW.trod_int Tryd.underlying3 (hg 0 _ rfl)
    obtain ⟨k1, c1, rfl, g1⟩ := DataW.trod_string Tryd.underlying9 (hg 1 _ rfl)
    obtain ⟨k2, c2, rfl, g2⟩ := DataW.trod_string Tryd.underlying9 (hg 2 _ rfl)
    obtain ⟨k3, c3, rfl, g3⟩ := DataW.trod_int Tryd.underlying3 (hg 3 _ rfl)
    obtain ⟨k4, hk4, c4, rfl⟩ := cells_bytes Tryd.underlying23 Tryd.underlying5 celA5 celA23 (hg 4 _ rfl)
    rw [cells44] at hl
    replace c0 : ((Value.agg cs).cells.toList.drop 0).take (Tryd.prog.cellsOf 3) = [.int .i64 k0] := c0
    replace c1 : ((Value.agg cs).cells.toList.drop 1).take (Tryd.prog.cellsOf 9) = [.string k1] := c1
    replace c2 : ((Value.agg cs).cells.toList.drop 2).take (Tryd.prog.cellsOf 9) = [.string k2] := c2
    replace c3 : ((Value.agg cs).cells.toList.drop 3).take (Tryd.prog.cellsOf 3) = [.int .i64 k3] := c3
    replace c4 : ((Value.agg cs).cells.toList.drop 4).take (Tryd.prog.cellsOf 23) = bc k4 := c4
    simp only [cells3, cells9, celA23] at c0 c1 c2 c3 c4
    have hcs : (Value.agg cs).cells.toList = pkc k0 k1 k2 k3 ⟨k4, hk4⟩ := by
      generalize (Value.agg cs).cells.toList = l at hl c0 c1 c2 c3 c4
      match l, hl with
      | a0 :: a1 :: a2 :: a3 :: l, hl =>
        have hl32 : l.length = 32 := by simpa using hl
        simp at c0 c1 c2 c3
        rw [List.drop_succ_cons, List.drop_succ_cons, List.drop_succ_cons, List.drop_succ_cons, List.drop_zero, List.take_of_length_le (by omega)] at c4
        rw [c0, c1, c2, c3, c4]; rfl
    refine ⟨k0, k1, k2, k3, ⟨k4, hk4⟩, ?_, ?_⟩
    · congr 1
      apply Array.toList_inj.1
      simpa [Value.cells] using hcs
    · simp only [Prod.mk.injEq] at hx
      rw [hx.2]; rfl
section
variable {a : Act} {w : World} {K : Value → World → Prop} {dst : Option Tmp} {ty : TypeId} {pos : String} {aft : Array Edge} {gd : Option (Nat × Bool)}
theorem g_ldC (x : Operand) (b o : Nat) (t : Int) (s : ByteArray) (hx : a.eval x = .pointer (some ⟨b, o, none⟩)) (h0 : w.cell? ⟨b, o, none⟩ = some (.int .i64 t)) (h1 : w.cell? ⟨b, o + 1, none⟩ = some (.string s)) (hk : K (.agg (cac t s).toArray) w) : gives Tryd.prog ⟨dst, .load 39 x, ty, pos, aft, gd⟩ a w K := by
  have hr : w.rangeAt b o (cac t s) := fun j v hv => by
    match j, hv with
    | 0, hv => obtain rfl : Value.int .i64 t = v := by simpa [cac] using hv
               exact h0
    | 1, hv => obtain rfl : Value.string s = v := by simpa [cac] using hv
               exact h1
    | j + 2, hv => simp [cac] at hv
  unfold gives
  simp only [execOp, hx, Sem.run_bind, run_loadAt_mid w b o 39 _ _ hr Tryd.underlying39 rfl (szCa t s), Result.andThen_ok, Sem.run_pure]
  exact hk
theorem szof39 : ∀ w, (sizeOf 39).run Tryd.prog w = .ok 2 w := by intro w; kernel_rfl
theorem szof5 : ∀ w, (sizeOf 5).run Tryd.prog w = .ok 1 w := by intro w; kernel_rfl
theorem ld5 (w : World) (b o : Nat) (v : Value) (hc : w.cell? ⟨b, o, none⟩ = some v) : (Instr.loadAt 5 (.pointer (some ⟨b, o, none⟩))).run Tryd.prog w = .ok v w := by go_simp
end
end Go.Proofs.YtphocklnhoakcaaDoor
