/- Slices of bytes that the reference grows: each append leaves all other blocks as they were. -/
import Derived.Test.YtdfpnicpcndkjaaDoorMacW5
import Derived.Test.YtdfpnicpcndkjaaDoorRef4
namespace Go.Proofs.YtdfpnicpcndkjaaDoor
set_option maxRecDepth 10000
open Go.RowKit
set_option linter.unusedVariables false

theorem info5 : (Tryd.prog.info? 5).map (fun i => (i.zero, i.size, i.bytes)) = some (some (.int .u8 0), 1, 1) := by kernel_rfl
/-- All blocks that were there, but block g, are as they were. -/
structure Grow (g : Nat) (w w' : World) : Prop where
  os : w'.os = w.os
  tape : w'.tape = w.tape
  output : w'.output = w.output
  size : w.heap.size ≤ w'.heap.size
  block : ∀ k, k < w.heap.size → k ≠ g → w'.heap[k]? = w.heap[k]?
theorem Grow.below {B g : Nat} {w0 w w' : World} (h : Grow g w w') (hb : Below B w0 w) (hg : B ≤ g) (hs : B ≤ w.heap.size) : Below B w0 w' :=
  hb.trans ⟨h.os, h.tape, h.output, h.size, fun k hk => h.block k (by omega) (by omega)⟩
theorem Grow.blk {g c : Nat} {w w' : World} {cs : List Value} {t : TypeId} (h : Grow g w w') (hc : Blk w c cs t) (hn : c ≠ g) : Blk w' c cs t := by
  have hl := hc.lt
  unfold Blk; rw [h.block c hl hn]; exact hc
theorem run_app8 {w : World} (ty : TypeId) (g cap n b c : Nat) (l : List UInt8) (sp : List Value) (z : UInt8) (hn : l.length = n) (hb : Blk w g (bc l ++ sp) 5) (hc : sp.length + n = cap) (hm : cap ≤ 9223372036854775807)
    (hz : w.cell? ⟨b, 0, none⟩ = some (.int .u8 (z.toNat : Int))) (hs : n ≤ 1000) :
    ∃ g' cap' sp' w', (Builtin.append_ #[57, 57] ty #[.slice (some ⟨g, 0, none⟩) n cap, .slice (some ⟨b, 0, none⟩) 1 c]).run Tryd.prog w = .ok (.slice (some ⟨g', 0, none⟩) (n + 1) cap') w' ∧ (g' = g ∨ g' = w.heap.size) ∧
      List.length sp' + (n + 1) = cap' ∧ cap' ≤ 9223372036854775807 ∧ Blk w' g' (bc (l ++ [z]) ++ sp') 5 ∧ Grow g w w' := by
  obtain ⟨i, hi, he⟩ : ∃ i, Tryd.prog.info? 5 = some i ∧ (i.zero, i.size, i.bytes) = (some (.int .u8 0), 1, 1) := by
    have h := info5
    cases hi : Tryd.prog.info? 5 with
    | none => rw [hi] at h; cases h
    | some i => rw [hi] at h; exact ⟨i, rfl, Option.some.inj h⟩
  have hz0 : i.zero = some (.int .u8 0) := congrArg (·.1) he
  have hz1 : i.size = 1 := congrArg (·.2.1) he
  have hz2 : i.bytes = 1 := congrArg (·.2.2) he
  have hlt := hb.lt
  have hown : w.ownsRow 0 5 1 (.slice (some ⟨g, 0, none⟩) n cap) n (bc l) := by
    refine ⟨by rw [bc_length, hn, Nat.mul_one], .inr ⟨g, cap, (bc l ++ sp).toArray, rfl, Nat.zero_le _, hb, by omega, hm, ?_, ?_⟩⟩
    · rw [List.size_toArray, List.length_append, bc_length]; omega
    · rw [Nat.mul_one, ← hn, List.take_left' (bc_length l)]
  have hnews : ∀ j u, (bc [z])[j]? = some u → w.cell? ((⟨b, 0, none⟩ : Addr).add j) = some u := fun j u hu => by
    rcases j with _ | j
    · rw [Addr.add_mid]; rw [show (bc [z])[0]? = some (.int .u8 (z.toNat : Int)) from rfl] at hu; rw [← hu]; exact hz
    · simp [bc] at hu
  obtain ⟨v', w', h1, h2, h3, -⟩ := run_append_own (P := Tryd.prog) w 0 57 ty 5 i (.int .u8 0) 1 1 Tryd.underlying57 hi hz0 hz1 hz2 rfl (by decide) _ n (bc l) hown
    ⟨b, 0, none⟩ 1 c (bc [z]) rfl hnews (bc_one _) (by show _ ≤ 9223372036854775807; omega) (by omega) (Nat.zero_le _)
  rcases h2.2 with ⟨_, hx⟩ | ⟨g', cap', cur, rfl, -, hg', hc1, hc2, hc3, hc4⟩
  · omega
  rw [Nat.mul_one] at hc3 hc4
  refine ⟨g', cap', cur.toList.drop (n + 1), w', h1, ?_, ?_, hc2, ?_, ⟨h3.os, h3.tape, h3.output, h3.size, fun k hk hne => h3.block k hk (fun e => hne (by simpa [Value.ownBlock] using e))⟩⟩
  · by_cases hroom : n + 1 ≤ cap
    · have hr := run_append_room (P := Tryd.prog) w 57 ty 5 i Tryd.underlying57 hi g n cap (bc l ++ sp).toArray hb ⟨b, 0, none⟩ 1 c (bc [z]) (by rw [hz1]; rfl) hnews (bc_one _) hroom
        (by rw [hz1, List.size_toArray, List.length_append, bc_length, bc_length]; simp; omega)
      rw [h1] at hr
      simp only [Result.ok.injEq, Value.slice.injEq, Option.some.injEq, Addr.mk.injEq] at hr
      exact .inl hr.1.1.1
    · have holds : ∀ j u, (bc l)[j]? = some u → w.cell? ((⟨g, 0, none⟩ : Addr).add j) = some u := fun j u hu => by
        rw [Addr.add_mid, Nat.zero_add]
        refine hb.cell j u ?_
        rw [List.getElem?_append_left (List.getElem?_eq_some_iff.1 hu).1]; exact hu
      have hr := run_append_grow (P := Tryd.prog) w 57 ty 5 i (.int .u8 0) Tryd.underlying57 hi hz0 ⟨g, 0, none⟩ n cap (bc l) (by rw [hz1, bc_length]; omega) holds ⟨b, 0, none⟩ 1 c (bc [z]) (by rw [hz1]; rfl) hnews (by omega) (by omega)
        (growslice_fits (by omega) (by rw [hz2]; omega))
      rw [h1] at hr
      simp only [Result.ok.injEq, Value.slice.injEq, Option.some.injEq, Addr.mk.injEq] at hr
      exact .inr hr.1.1.1
  · rw [List.length_drop, Array.length_toList]; omega
  · have e : bc l ++ bc [z] = bc (l ++ [z]) := by simp [bc]
    rw [e] at hc4
    show w'.heap[g']? = _
    rw [← hc4, List.take_append_drop]
    exact hg'
section
variable {ops : Array Oper} {Q : Exit → Act → World → Prop} {a : Act} {w : World} {rest : List Oper} {dst : Option Tmp} {ty : TypeId} {pos : String} {aft : Array Edge}
theorem L_app8 (x y : Operand) (g cap n b c : Nat) (l : List UInt8) (sp : List Value) (z : UInt8) (hx : a.eval x = .slice (some ⟨g, 0, none⟩) n cap) (hy : a.eval y = .slice (some ⟨b, 0, none⟩) 1 c) (hn : l.length = n) (hb : Blk w g (bc l ++ sp) 5) (hc : sp.length + n = cap) (hm : cap ≤ 9223372036854775807)
    (hz : w.cell? ⟨b, 0, none⟩ = some (.int .u8 (z.toNat : Int))) (hs : n ≤ 1000)
    (h : ∀ g' cap' sp' w', (g' = g ∨ g' = w.heap.size) → List.length sp' + (n + 1) = cap' → cap' ≤ 9223372036854775807 → Blk w' g' (bc (l ++ [z]) ++ sp') 5 → Grow g w w' → wpList Tryd.prog ops Q rest (a.put dst (.slice (some ⟨g', 0, none⟩) (n + 1) cap')) w') :
    wpList Tryd.prog ops Q (⟨dst, .call { callee := .builtin .append, args := #[x, y], argTypes := #[57, 57] }, ty, pos, aft, none⟩ :: rest) a w := by
  obtain ⟨g', cap', sp', w', hr, h1, h2, h3, h4, h5⟩ := run_app8 ty g cap n b c l sp z hn hb hc hm hz hs
  refine wpList_plain rfl fun K hK => ?_
  unfold Oper.wp execOp
  simp only [resolve, invoke, builtin, Sem.run_bind, Sem.run_pure, Result.andThen_ok, List.map_toArray, List.map_cons, List.map_nil, hx, hy, hr]
  exact hK _ _ (h g' cap' sp' w' h1 h2 h3 h4 h5)
theorem run_b1 (w : World) (x : Int) : (Instr.buildSlice 57 1 #[(0, .int .u8 x)]).run Tryd.prog w = .ok (.slice (some ⟨w.heap.size, 0, none⟩) 1 1) (w.alloc (.cells #[.int .u8 x] 5)) := by
  go_simp
theorem run_b0 (w : World) : (Instr.buildSlice 57 0 #[]).run Tryd.prog w = .ok (.slice (some ⟨w.heap.size, 0, none⟩) 0 0) (w.alloc (.cells #[] 5)) := by
  go_simp
theorem at_buildD {P : Program} {t : TypeId} {ps : Array (Nat × Operand)} (d : Tmp) (n : Nat) (h : wpList P ops Q (⟨some d, .buildSlice t n ps, ty, pos, aft, none⟩ :: rest) a w) : wpList P ops Q (⟨some d, .buildSlice t n ps, ty, pos, aft, none⟩ :: rest) a w := h
theorem L_b1 (y : Operand) (x : UInt8) (hy : a.eval y = .int .u8 (x.toNat : Int))
    (h : ∀ w', Turn w.heap.size w w' → Blk w' w.heap.size (bc [x]) 5 → wpList Tryd.prog ops Q rest (a.put dst (.slice (some ⟨w.heap.size, 0, none⟩) 1 1)) w') :
    wpList Tryd.prog ops Q (⟨dst, .buildSlice 57 1 #[(0, y)], ty, pos, aft, none⟩ :: rest) a w := by
  refine wpList_plain rfl fun K hK => ?_
  unfold Oper.wp execOp
  simp only [List.map_toArray, List.map_cons, List.map_nil, hy, Sem.run_bind, run_b1, Result.andThen_ok, Sem.run_pure]
  obtain ⟨h2, h3⟩ := turn_alloc w (bc [x]) 5
  exact hK _ _ (h _ h2 h3)
theorem L_b0 (h : ∀ w', Turn w.heap.size w w' → Blk w' w.heap.size (bc []) 5 → wpList Tryd.prog ops Q rest (a.put dst (.slice (some ⟨w.heap.size, 0, none⟩) 0 0)) w') :
    wpList Tryd.prog ops Q (⟨dst, .buildSlice 57 0 #[], ty, pos, aft, none⟩ :: rest) a w := by
  refine wpList_plain rfl fun K hK => ?_
  unfold Oper.wp execOp
  simp only [List.map_toArray, List.map_nil, Sem.run_bind, run_b0, Result.andThen_ok, Sem.run_pure]
  obtain ⟨h2, h3⟩ := turn_alloc w (bc []) 5
  exact hK _ _ (h _ h2 h3)
end
/-- One byte more of what is xored. -/
theorem xk_snoc (m : UInt8) (b : List UInt8) (j : Nat) (h : j < b.length) (x : UInt8) (hx : b.getD j 0 = x) : xk m (b.take (j + 1)) = xk m (b.take j) ++ [x ^^^ m] := by
  have hx2 : b[j] = x := by rw [← hx]; simp [h]
  rw [List.take_succ_eq_append_getElem h, hx2]
  simp [xk]
theorem xk_len (m : UInt8) (b : List UInt8) (j : Nat) (h : j ≤ b.length) : (xk m (b.take j)).length = j := by rw [xk_length, List.length_take]; omega
end Go.Proofs.YtdfpnicpcndkjaaDoor
