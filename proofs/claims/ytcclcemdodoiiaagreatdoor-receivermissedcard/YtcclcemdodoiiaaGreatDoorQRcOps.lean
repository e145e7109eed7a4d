/- Minds (33 cells), things (2), receivers (41 cells: the program's and the reference's) and acts (38) in a walk, and what single operations on them yield. -/
import Derived.Test.YtcclcemdodoiiaaGreatDoorQBfMath
import Derived.Test.YtcclcemdodoiiaaGreatDoorQRefB
namespace Go.Proofs.YtcclcemdodoiiaaGreatDoor
set_option maxRecDepth 10000
open Go Go.RowKit
set_option linter.unusedVariables false
set_option linter.unusedSimpArgs false

/-- A mind as the program's structure. -/
def mc (k : Ky) (n : Int) : List Value := bc k.l ++ [.int .i64 n]
theorem mc_length (k : Ky) (n : Int) : (mc k n).length = 33 := by rw [mc, List.length_append, bc_length, k.len]; rfl
theorem one_mc (k : Ky) (n : Int) : ∀ v ∈ mc k n, v.oneCell' = true := by
  intro v hv
  rcases List.mem_append.1 hv with h | h
  · exact bc_one _ v h
  · obtain rfl := List.mem_singleton.1 h; rfl
theorem szM (k : Ky) (n : Int) : (Tryz.prog.info? 92).map (·.size) = some (mc k n).length := by
  have h : (Tryz.prog.info? 92).map (·.size) = some 33 := by kernel_rfl
  rw [mc_length]; exact h
theorem zeroM : ∀ w, (zeroValue 92).run Tryz.prog w = .ok (.agg (mc zk 0).toArray) w := by
  intro w; kernel_rfl
theorem mc_at (k : Ky) (n : Int) : (mc k n)[32]? = some (.int .i64 n) := by
  have h : (bc k.l).length = 32 := by rw [bc_length, k.len]
  rw [mc, List.getElem?_append_right (by omega), h]; rfl
theorem mc_take (k : Ky) (n : Int) : ((mc k n).drop 0).take 32 = kc k := by
  have h : (bc k.l).length = 32 := by rw [bc_length, k.len]
  rw [List.drop_zero, mc, List.take_append_of_le_length (by omega), List.take_of_length_le (by omega)]; rfl
theorem mm2_len (k m : Ky) (n p : Int) : (mc k n).length = (mc m p).length := by rw [mc_length, mc_length]
theorem fieldsM : Tryz.prog.underlying 92 = some (.struct (Tryz.prog.fieldsOf 92)) := by kernel_rfl
theorem heldM : Tryz.prog.stoodInHeld 92 = false := by kernel_rfl
theorem flM : (Tryz.prog.fieldsOf 92).toList = [{ name := "Known", type := 23, offset := 0, embedded := false, tag := "", pkgPath := "", byteOffset := 0 }, { name := "At", type := 3, offset := 32, embedded := false, tag := "", pkgPath := "", byteOffset := 32 }] := by kernel_rfl
theorem flM0 : (Tryz.prog.fieldsOf 92)[0]? = some { name := "Known", type := 23, offset := 0, embedded := false, tag := "", pkgPath := "", byteOffset := 0 } := by kernel_rfl
theorem partK (k : Ky) (n : Int) (w : World) : (part 23 (mc k n).toArray 0).run Tryz.prog w = .ok (.agg (kc k).toArray) w := by
  have h : ((mc k n).toArray.extract 0 (0 + 32)) = (kc k).toArray := by
    apply Array.toList_inj.1
    rw [Array.toList_extract, List.extract_eq_take_drop]
    exact mc_take k n
  simp only [part, Sem.run_bind, Tryz.isAgg23, Tryz.sizeOf23, Result.andThen_ok, if_true, Sem.run_pure, h]
theorem partA (k : Ky) (n : Int) (w : World) : (part 3 (mc k n).toArray 32).run Tryz.prog w = .ok (.int .i64 n) w := by
  have h : (mc k n).toArray[32]? = some (.int .i64 n) := by rw [List.getElem?_toArray]; exact mc_at k n
  simp [part, h]
theorem equalM (k m : Ky) (p q : Int) (b : Bool) (hb : decide (k.l = m.l ∧ p = q) = b) (w : World) : (Op.equalIn 10000 92 (.agg (mc k p).toArray) (.agg (mc m q).toArray)).run Tryz.prog w = .ok b w := by
  subst hb
  rw [run_equalIn_agg w 9999 92 _ _ fieldsM heldM, flM]
  simp only [Op.eqFields, ne_eq, not_false_eq_true, if_true, Sem.run_bind, partK, partA, Result.andThen_ok, equalK k m 9997, run_equalIn_int w 9998 3 .i64 .i64 _ _ Tryz.underlying3, String.reduceEq, Sem.run_ite, Sem.run_pure]
  by_cases h1 : k.l = m.l <;> by_cases h2 : p = q <;> simp [h1, h2]
theorem fold_key (k m : Ky) (n : Int) : (kc k).zipIdx.foldl (fun (cs : Array Value) (x : Value × Nat) => cs.setIfInBounds x.snd x.fst) (mc m n).toArray = (mc k n).toArray := by
  have h := fold_set (kc k) 0 [] (mc m n) rfl (by rw [kc_length, mc_length]; decide)
  rw [List.nil_append, List.nil_append, kc_length] at h
  rw [h]
  have e : (mc m n).drop 32 = [.int .i64 n] := by
    have h : (bc m.l).length = 32 := by rw [bc_length, m.len]
    rw [mc, List.drop_append, h, List.drop_eq_nil_of_le (by omega)]; rfl
  rw [e]; rfl
theorem mc_set (k : Ky) (n p : Int) : (mc k n).toArray.setIfInBounds 32 (.int .i64 p) = (mc k p).toArray := by
  have h : (bc k.l).length = 32 := by rw [bc_length, k.len]
  apply Array.toList_inj.1
  rw [Array.toList_setIfInBounds]
  show (mc k n).set 32 _ = mc k p
  rw [mc, List.set_append_right _ _ (by omega), h]; rfl
theorem zero_mc : (#[.int .u8 0, .int .u8 0, .int .u8 0, .int .u8 0, .int .u8 0, .int .u8 0, .int .u8 0, .int .u8 0, .int .u8 0, .int .u8 0, .int .u8 0, .int .u8 0, .int .u8 0, .int .u8 0, .int .u8 0, .int .u8 0, .int .u8 0, .int .u8 0, .int .u8 0, .int .u8 0, .int .u8 0, .int .u8 0, .int .u8 0, .int .u8 0, .int .u8 0, .int .u8 0, .int .u8 0, .int .u8 0, .int .u8 0, .int .u8 0, .int .u8 0, .int .u8 0, .int .i64 0] : Array Value) = (mc zk 0).toArray := rfl
theorem guardM : Tryz.prog.eqGuardType Tryz.prog.depth 92 = false := by kernel_rfl
/-- A receiver: its plan, its key and which one that is, how far it walks, its buffer, what is believed, how many were wrong. -/
def rcc (p : Pl) (k : Ky) (n mo : Int) (u v : Value) (wr : Int) : List Value := plc p ++ (kc k ++ [.int .i64 n, .int .i64 mo, u, v, .int .i64 wr])
theorem rcc_length (p : Pl) (k : Ky) (n mo : Int) (u v : Value) (wr : Int) : (rcc p k n mo u v wr).length = 41 := by simp [rcc, kc_length, plc_length]
section
variable (p : Pl) (k : Ky) (n mo : Int) (u v : Value) (wr : Int)
theorem rv_plan : ((rcc p k n mo u v wr).drop 0).take 4 = plc p := rfl
theorem rv_mind : ((rcc p k n mo u v wr).drop 4).take 33 = mc k n := by
  have h := drop_at (l := plc p) (m := mc k n) (r := [.int .i64 mo, u, v, .int .i64 wr]) (o := 4) (n := 33) rfl (mc_length k n)
  rw [mc, List.append_assoc] at h
  exact h
theorem rv_3 : (rcc p k n mo u v wr)[3]? = some (.int .i64 p.ct) := rfl
theorem rv_at (j : Nat) : (rcc p k n mo u v wr)[36 + j]? = ([.int .i64 n, .int .i64 mo, u, v, .int .i64 wr] : List Value)[j]? := by
  have h : (plc p ++ kc k).length = 36 := by simp [kc_length, plc_length]
  rw [rcc, ← List.append_assoc, List.getElem?_append_right (by omega), h, Nat.add_sub_cancel_left]
theorem rv_36 : (rcc p k n mo u v wr)[36]? = some (.int .i64 n) := rv_at p k n mo u v wr 0
theorem rv_37 : (rcc p k n mo u v wr)[37]? = some (.int .i64 mo) := rv_at p k n mo u v wr 1
theorem rv_38 : (rcc p k n mo u v wr)[38]? = some u := rv_at p k n mo u v wr 2
theorem rv_39 : (rcc p k n mo u v wr)[39]? = some v := rv_at p k n mo u v wr 3
theorem rv_40 : (rcc p k n mo u v wr)[40]? = some (.int .i64 wr) := rv_at p k n mo u v wr 4
theorem rv_set (j : Nat) (x : Value) : (rcc p k n mo u v wr).set (36 + j) x = plc p ++ (kc k ++ ([.int .i64 n, .int .i64 mo, u, v, .int .i64 wr] : List Value).set j x) := by
  have h : (plc p ++ kc k).length = 36 := by simp [kc_length, plc_length]
  rw [rcc, ← List.append_assoc, List.set_append_right _ _ (by omega), h, Nat.add_sub_cancel_left, List.append_assoc]
theorem rv_set40 (b : Int) : (rcc p k n mo u v wr).set 40 (.int .i64 b) = rcc p k n mo u v b := rv_set p k n mo u v wr 4 _
theorem rv_putM (m : Ky) (q : Int) : (rcc p k n mo u v wr).take 4 ++ mc m q ++ (rcc p k n mo u v wr).drop (4 + (mc m q).length) = rcc p m q mo u v wr := by
  have h := set_mid (l := plc p) (m := mc k n) (m2 := mc m q) (r := [.int .i64 mo, u, v, .int .i64 wr]) (o := 4) (n := 33) rfl (mc_length k n)
  rw [mc_length]
  simp only [mc, List.append_assoc, List.cons_append, List.nil_append] at h
  simpa only [rcc, mc, kc, List.append_assoc, List.cons_append, List.nil_append] using h
end
theorem zeroRc : ∀ w, (zeroValue 95).run Tryz.prog w = .ok (.agg (rcc pl0 zk 0 0 (.pointer none) (.map none) 0).toArray) w := by intro w; kernel_rfl
theorem sizeMi : (Tryz.prog.info? 92).map (·.size) = some 33 := by kernel_rfl
theorem fillRc (p : Pl) (k : Ky) (n mo : Int) (u v : Value) (hu : u.cells = #[u]) (hv : v.cells = #[v]) : Instr.fill ((#[(0, 4), (4, 33), (37, 1), (38, 1), (39, 1), (40, 1)] : Array (Nat × Nat))[·]?) (rcc pl0 zk 0 0 (.pointer none) (.map none) 0).toArray [(0, .agg (plc p).toArray), (1, .agg (mc k n).toArray), (2, .int .i64 mo), (3, u), (4, v)] = some (rcc p k n mo u v 0).toArray := by
  have f0 := fill_part (place := ((#[(0, 4), (4, 33), (37, 1), (38, 1), (39, 1), (40, 1)] : Array (Nat × Nat))[·]?)) (i := 0) (off := 0) (size := 4) (v := .agg (plc p).toArray) (cs := plc p) (pre := []) (mid := plc pl0) (post := mc zk 0 ++ [.int .i64 0, .pointer none, .map none, .int .i64 0]) (rest := [(1, .agg (mc k n).toArray), (2, .int .i64 mo), (3, u), (4, v)]) rfl rfl rfl rfl rfl
  have f1 := fill_part (place := ((#[(0, 4), (4, 33), (37, 1), (38, 1), (39, 1), (40, 1)] : Array (Nat × Nat))[·]?)) (i := 1) (off := 4) (size := 33) (v := .agg (mc k n).toArray) (cs := mc k n) (pre := plc p) (mid := mc zk 0) (post := [.int .i64 0, .pointer none, .map none, .int .i64 0]) (rest := [(2, .int .i64 mo), (3, u), (4, v)]) rfl rfl (mc_length k n) rfl (mc_length _ _)
  have f2 := fill_part (place := ((#[(0, 4), (4, 33), (37, 1), (38, 1), (39, 1), (40, 1)] : Array (Nat × Nat))[·]?)) (i := 2) (off := 37) (size := 1) (v := .int .i64 mo) (cs := [.int .i64 mo]) (pre := plc p ++ mc k n) (mid := [.int .i64 0]) (post := [.pointer none, .map none, .int .i64 0]) (rest := [(3, u), (4, v)]) rfl rfl rfl (by simp [plc_length, mc_length]) rfl
  have f3 := fill_part (place := ((#[(0, 4), (4, 33), (37, 1), (38, 1), (39, 1), (40, 1)] : Array (Nat × Nat))[·]?)) (i := 3) (off := 38) (size := 1) (v := u) (cs := [u]) (pre := plc p ++ (mc k n ++ [.int .i64 mo])) (mid := [.pointer none]) (post := [.map none, .int .i64 0]) (rest := [(4, v)]) rfl hu rfl (by simp [plc_length, mc_length]) rfl
  have f4 := fill_part (place := ((#[(0, 4), (4, 33), (37, 1), (38, 1), (39, 1), (40, 1)] : Array (Nat × Nat))[·]?)) (i := 4) (off := 39) (size := 1) (v := v) (cs := [v]) (pre := plc p ++ (mc k n ++ [.int .i64 mo, u])) (mid := [.map none]) (post := [.int .i64 0]) (rest := []) rfl hv rfl (by simp [plc_length, mc_length]) rfl
  have z0 : rcc pl0 zk 0 0 (.pointer none) (.map none) 0 = plc pl0 ++ (mc zk 0 ++ [.int .i64 0, .pointer none, .map none, .int .i64 0]) := by simp only [rcc, mc, kc, List.append_assoc, List.cons_append, List.nil_append]
  rw [z0]
  simp only [List.nil_append] at f0
  refine f0.trans (f1.trans ?_)
  simp only [List.append_assoc, List.cons_append, List.nil_append, List.append_nil] at f2 f3 f4 ⊢
  refine f2.trans (f3.trans (f4.trans ?_))
  simp only [Instr.fill, rcc, mc, kc, List.append_assoc, List.cons_append, List.nil_append]
theorem fieldsRc : Tryz.prog.underlying 95 = some (.struct (Tryz.prog.fieldsOf 95)) := by kernel_rfl
theorem placesRc : ∀ w, ((Tryz.prog.fieldsOf 95).mapM (fun f => do pure (f.offset, ← sizeOf f.type) : Field → Sem (Nat × Nat))).run Tryz.prog w = .ok #[(0, 4), (4, 33), (37, 1), (38, 1), (39, 1), (40, 1)] w := by intro w; kernel_rfl
section
variable (c i : Int) (x g : ByteArray) (t : Int) (k : Ky) (l : Int)
end
theorem szof73 : ∀ w, (sizeOf 73).run Tryz.prog w = .ok 2 w := by intro w; kernel_rfl
theorem sizeTh : (Tryz.prog.info? 73).map (·.size) = some 2 := by kernel_rfl
theorem fieldsTh : Tryz.prog.underlying 73 = some (.struct (Tryz.prog.fieldsOf 73)) := by kernel_rfl
theorem heldTh : Tryz.prog.stoodInHeld 73 = false := by kernel_rfl
theorem flTh : (Tryz.prog.fieldsOf 73).toList = [{ name := "Interval", type := 3, offset := 0, embedded := false, tag := "", pkgPath := "", byteOffset := 0 }, { name := "Text", type := 9, offset := 1, embedded := false, tag := "", pkgPath := "", byteOffset := 8 }] := by kernel_rfl
theorem guardTh : Tryz.prog.eqGuardType Tryz.prog.depth 73 = false := by kernel_rfl
theorem equalTh (p q : Thg) (w : World) : (Op.equalIn 10000 73 (.agg (tc p).toArray) (.agg (tc q).toArray)).run Tryz.prog w = .ok (decide (p = q)) w := by
  have p0 : ∀ (z : Thg) w, (part 3 (tc z).toArray 0).run Tryz.prog w = .ok (.int .i64 z.1) w := fun z w => by simp [part, tc]
  have p1 : ∀ (z : Thg) w, (part 9 (tc z).toArray 1).run Tryz.prog w = .ok (.string z.2) w := fun z w => by simp [part, tc]
  rw [run_equalIn_agg w 9999 73 _ _ fieldsTh heldTh, flTh]
  simp only [Op.eqFields, ne_eq, not_false_eq_true, if_true, Sem.run_bind, p0, p1, Result.andThen_ok, run_equalIn_int w 9998 3 .i64 .i64 _ _ Tryz.underlying3, run_equalIn_string w 9998 9 _ _ Tryz.underlying9, String.reduceEq, Sem.run_ite, Sem.run_pure]
  obtain ⟨a, b⟩ := p
  obtain ⟨c, d⟩ := q
  have e := ba_beq b d
  by_cases h1 : a = c <;> by_cases h2 : b = d <;> simp [h1, h2, e, toList_beq]
theorem run_bs73 (w : World) (t : Thg) : (Instr.buildSlice 43 1 #[(0, .agg (tc t).toArray)]).run Tryz.prog w = .ok (.slice (some ⟨w.heap.size, 0, none⟩) 1 1) (w.alloc (.cells (tc t).toArray 73)) := by
  simp [Instr.buildSlice, run_underlying Tryz.underlying43, szof73, Tryz.zeroValue73, Instr.fill, newRow, tc, Value.cells, ar2]
theorem inf73_some : (Tryz.prog.info? 73).map (fun i => (i.size, i.bytes, i.zero.map (fun z => z.cells.size))) = some (2, 24, some 2) := by kernel_rfl
theorem inf73 : ∃ i z, Tryz.prog.info? 73 = some i ∧ i.zero = some z ∧ i.size = 2 ∧ i.bytes = 24 ∧ z.cells.size = 2 := by
  have h := inf73_some
  cases hi : Tryz.prog.info? 73 with
  | none => rw [hi] at h; cases h
  | some i =>
    rw [hi] at h
    simp only [Option.map_some, Option.some.injEq, Prod.mk.injEq] at h
    obtain ⟨h1, h2, h3⟩ := h
    cases hz : i.zero with
    | none => rw [hz] at h3; cases h3
    | some z =>
      rw [hz] at h3
      simp only [Option.map_some, Option.some.injEq] at h3
      exact ⟨i, z, rfl, hz, h1, h2, h3⟩
theorem ld88 (w : World) (b o : Nat) (v : Value) (hc : w.cell? ⟨b, o, none⟩ = some v) : (Instr.loadAt 88 (.pointer (some ⟨b, o, none⟩))).run Tryz.prog w = .ok v w := by go_simp
theorem ld51 (w : World) (b o : Nat) (v : Value) (hc : w.cell? ⟨b, o, none⟩ = some v) : (Instr.loadAt 51 (.pointer (some ⟨b, o, none⟩))).run Tryz.prog w = .ok v w := by go_simp
theorem ld93 (w : World) (b o : Nat) (v : Value) (hc : w.cell? ⟨b, o, none⟩ = some v) : (Instr.loadAt 93 (.pointer (some ⟨b, o, none⟩))).run Tryz.prog w = .ok v w := by go_simp
theorem ld43 (w : World) (b o : Nat) (v : Value) (hc : w.cell? ⟨b, o, none⟩ = some v) : (Instr.loadAt 43 (.pointer (some ⟨b, o, none⟩))).run Tryz.prog w = .ok v w := by go_simp
theorem faRc0 (w : World) (b o : Nat) : (Instr.fieldAt 95 (.pointer (some ⟨b, o, none⟩)) 0).run Tryz.prog w = .ok (.pointer (some ⟨b, o, none⟩)) w := by go_simp
theorem faRc1 (w : World) (b o : Nat) : (Instr.fieldAt 95 (.pointer (some ⟨b, o, none⟩)) 1).run Tryz.prog w = .ok (.pointer (some ⟨b, o + 4, none⟩)) w := by go_simp
theorem faRc2 (w : World) (b o : Nat) : (Instr.fieldAt 95 (.pointer (some ⟨b, o, none⟩)) 2).run Tryz.prog w = .ok (.pointer (some ⟨b, o + 37, none⟩)) w := by go_simp
theorem faRc3 (w : World) (b o : Nat) : (Instr.fieldAt 95 (.pointer (some ⟨b, o, none⟩)) 3).run Tryz.prog w = .ok (.pointer (some ⟨b, o + 38, none⟩)) w := by go_simp
theorem faRc4 (w : World) (b o : Nat) : (Instr.fieldAt 95 (.pointer (some ⟨b, o, none⟩)) 4).run Tryz.prog w = .ok (.pointer (some ⟨b, o + 39, none⟩)) w := by go_simp
theorem faRc5 (w : World) (b o : Nat) : (Instr.fieldAt 95 (.pointer (some ⟨b, o, none⟩)) 5).run Tryz.prog w = .ok (.pointer (some ⟨b, o + 40, none⟩)) w := by go_simp
theorem faRr0 (w : World) (b o : Nat) : (Instr.fieldAt 53 (.pointer (some ⟨b, o, none⟩)) 0).run Tryz.prog w = .ok (.pointer (some ⟨b, o, none⟩)) w := by go_simp
theorem faRr1 (w : World) (b o : Nat) : (Instr.fieldAt 53 (.pointer (some ⟨b, o, none⟩)) 1).run Tryz.prog w = .ok (.pointer (some ⟨b, o + 4, none⟩)) w := by go_simp
theorem faRr2 (w : World) (b o : Nat) : (Instr.fieldAt 53 (.pointer (some ⟨b, o, none⟩)) 2).run Tryz.prog w = .ok (.pointer (some ⟨b, o + 36, none⟩)) w := by go_simp
theorem faRr3 (w : World) (b o : Nat) : (Instr.fieldAt 53 (.pointer (some ⟨b, o, none⟩)) 3).run Tryz.prog w = .ok (.pointer (some ⟨b, o + 37, none⟩)) w := by go_simp
theorem faRr4 (w : World) (b o : Nat) : (Instr.fieldAt 53 (.pointer (some ⟨b, o, none⟩)) 4).run Tryz.prog w = .ok (.pointer (some ⟨b, o + 38, none⟩)) w := by go_simp
theorem faRr5 (w : World) (b o : Nat) : (Instr.fieldAt 53 (.pointer (some ⟨b, o, none⟩)) 5).run Tryz.prog w = .ok (.pointer (some ⟨b, o + 39, none⟩)) w := by go_simp
theorem faRr6 (w : World) (b o : Nat) : (Instr.fieldAt 53 (.pointer (some ⟨b, o, none⟩)) 6).run Tryz.prog w = .ok (.pointer (some ⟨b, o + 40, none⟩)) w := by go_simp
theorem faAc0 (w : World) (b o : Nat) : (Instr.fieldAt 41 (.pointer (some ⟨b, o, none⟩)) 0).run Tryz.prog w = .ok (.pointer (some ⟨b, o, none⟩)) w := by go_simp
theorem faAc1 (w : World) (b o : Nat) : (Instr.fieldAt 41 (.pointer (some ⟨b, o, none⟩)) 1).run Tryz.prog w = .ok (.pointer (some ⟨b, o + 1, none⟩)) w := by go_simp
theorem faAc2 (w : World) (b o : Nat) : (Instr.fieldAt 41 (.pointer (some ⟨b, o, none⟩)) 2).run Tryz.prog w = .ok (.pointer (some ⟨b, o + 37, none⟩)) w := by go_simp
theorem faMi0 (w : World) (b o : Nat) : (Instr.fieldAt 92 (.pointer (some ⟨b, o, none⟩)) 0).run Tryz.prog w = .ok (.pointer (some ⟨b, o, none⟩)) w := by go_simp
theorem faMi1 (w : World) (b o : Nat) : (Instr.fieldAt 92 (.pointer (some ⟨b, o, none⟩)) 1).run Tryz.prog w = .ok (.pointer (some ⟨b, o + 32, none⟩)) w := by go_simp
theorem fa73_0 (w : World) (b o : Nat) : (Instr.fieldAt 73 (.pointer (some ⟨b, o, none⟩)) 0).run Tryz.prog w = .ok (.pointer (some ⟨b, o, none⟩)) w := by go_simp
theorem fa73_1 (w : World) (b o : Nat) : (Instr.fieldAt 73 (.pointer (some ⟨b, o, none⟩)) 1).run Tryz.prog w = .ok (.pointer (some ⟨b, o + 1, none⟩)) w := by go_simp
section
variable {P : Program} {ops : Array Oper} {rest : List Oper} {a : Act} {w : World} {Q : Exit → Act → World → Prop} {dst : Option Tmp} {ty yt : TypeId} {pos : String} {aft : Array Edge} {gd : Option (Nat × Bool)} {K : Value → World → Prop}
theorem g_neqM (x y : Operand) (k m : Ky) (p q : Int) (b : Bool) (hx : a.eval x = .agg (mc k p).toArray) (hy : a.eval y = .agg (mc m q).toArray) (hb : decide (k.l = m.l ∧ p = q) = b) (hk : K (.bool (!b)) w) : gives Tryz.prog ⟨dst, .binOp .neq 92 x y yt, ty, pos, aft, gd⟩ a w K :=
  g_val (.bool (!b)) w (by simp only [execOp, hx, hy, Sem.run_bind, run_eqGuard_agg w _ _ _ _ _ _ guardM, run_neq_struct, equalM k m p q b hb, Result.andThen_ok, Sem.run_pure]) hk
theorem g_bldM0 (hk : K (.agg (mc zk 0).toArray) w) : gives Tryz.prog ⟨dst, .build 92 #[], ty, pos, aft, gd⟩ a w K :=
  g_val (.agg (mc zk 0).toArray) w (by simp only [execOp]; go_simp; rfl) hk
theorem g_bldM (x y : Operand) (k : Ky) (n : Int) (hx : a.eval x = .agg (kc k).toArray) (hy : a.eval y = .int .i64 n) (hk : K (.agg (mc k n).toArray) w) : gives Tryz.prog ⟨dst, .build 92 #[(0, x), (1, y)], ty, pos, aft, gd⟩ a w K :=
  g_val (.agg (mc k n).toArray) w (by simp only [execOp, hx, hy, List.map_toArray, List.map_cons, List.map_nil]; go_simp; simp only [kc_length, zero_mc, fold_key, mc_set]; simp [mc_length]) hk
theorem g_bldM1 (x : Operand) (k : Ky) (hx : a.eval x = .agg (kc k).toArray) (hk : K (.agg (mc k 0).toArray) w) : gives Tryz.prog ⟨dst, .build 92 #[(0, x)], ty, pos, aft, gd⟩ a w K :=
  g_val (.agg (mc k 0).toArray) w (by simp only [execOp, hx, List.map_toArray, List.map_cons, List.map_nil]; go_simp; simp only [kc_length, zero_mc, fold_key]; simp) hk
theorem g_fldM (x : Operand) (k : Ky) (n : Int) (hx : a.eval x = .agg (mc k n).toArray) (hk : K (.agg (kc k).toArray) w) : gives Tryz.prog ⟨dst, .field 92 x 0, ty, pos, aft, gd⟩ a w K :=
  g_val (.agg (kc k).toArray) w (by have h := partK k n w; simp only [execOp, hx, Instr.field, Sem.run_bind, run_underlying fieldsM, Result.andThen_ok]; simp [flM0, asAgg, h]) hk
theorem g_bldRc (x0 x1 x2 x3 x4 : Operand) (p : Pl) (k : Ky) (n mo : Int) (u v : Value) (hu : u.cells = #[u]) (hv : v.cells = #[v]) (h0 : a.eval x0 = .agg (plc p).toArray) (h1 : a.eval x1 = .agg (mc k n).toArray) (h2 : a.eval x2 = .int .i64 mo) (h3 : a.eval x3 = u) (h4 : a.eval x4 = v) (hk : K (.agg (rcc p k n mo u v 0).toArray) w) : gives Tryz.prog ⟨dst, .build 95 #[(0, x0), (1, x1), (2, x2), (3, x3), (4, x4)], ty, pos, aft, gd⟩ a w K :=
  g_bld 95 [(0, x0), (1, x1), (2, x2), (3, x3), (4, x4)] [(0, .agg (plc p).toArray), (1, .agg (mc k n).toArray), (2, .int .i64 mo), (3, u), (4, v)] _ (by simp only [List.map_cons, List.map_nil, h0, h1, h2, h3, h4]) (run_build _ _ _ _ _ _ zeroRc fieldsRc placesRc (fillRc p k n mo u v hu hv) w) hk
theorem g_bld73 (x y : Operand) (i : Int) (s : ByteArray) (hx : a.eval x = .int .i64 i) (hy : a.eval y = .string s) (hk : K (.agg (tc (i, s)).toArray) w) : gives Tryz.prog ⟨dst, .build 73 #[(0, x), (1, y)], ty, pos, aft, gd⟩ a w K :=
  g_val _ w (by simp only [execOp, hx, hy, List.map_toArray, List.map_cons, List.map_nil]; go_simp; try rfl) hk
theorem g_thE (x y : Operand) (p q : Thg) (b : Bool) (hx : a.eval x = .agg (tc p).toArray) (hy : a.eval y = .agg (tc q).toArray) (hb : decide (p = q) = b) (hk : K (.bool b) w) : gives Tryz.prog ⟨dst, .binOp .eql 73 x y yt, ty, pos, aft, gd⟩ a w K :=
  g_val (.bool b) w (by subst hb; simp only [execOp, hx, hy, Sem.run_bind, run_eqGuard_agg w _ _ _ _ _ _ guardTh, run_eql_struct, equalTh, Result.andThen_ok, Sem.run_pure]) hk
theorem run_eqMp (w : World) (d : Nat) (p : Option Nat) : (Op.equalIn (d + 1) 81 (.map p) (.map none)).run Tryz.prog w = .ok p.isNone w := by
  cases p <;> simp [Op.equalIn, run_underlying Tryz.underlying81]
theorem g_meq (x : Operand) (p : Option Nat) (b : Bool) (hx : a.eval x = .map p) (hb : p.isNone = b) (hk : K (.bool b) w) : gives Tryz.prog ⟨dst, .binOp .eql 81 x (.const (.map none)) yt, ty, pos, aft, gd⟩ a w K :=
  g_val (.bool b) w (by subst hb; have e : a.eval (.const (.map none)) = .map none := rfl; cases p <;> simp [execOp, hx, e, eqGuard, binOp, Op.equal, Op.maxDepth, run_eqMp]) hk
theorem g_mlen0 {t kt et : TypeId} (ht : P.underlying t = some (.map kt et)) (x : Operand) (hx : a.eval x = .map none) (hk : K (.int .i64 0) w) : gives P ⟨dst, .call { callee := .builtin .len, args := #[x], argTypes := #[t] }, ty, pos, aft, gd⟩ a w K :=
  g_val (.int .i64 0) w (by simp [execOp, resolve, invoke, builtin, hx, Builtin.len_, run_underlying ht, Result.andThen, goInt]) hk
theorem g_look0 {κ : Type} [DecidableEq κ] {enc : κ → Value} {t kt et : TypeId} (hK : KeyOk P kt enc) (ht : P.underlying t = some (.map kt et)) {z : Value} (hz : ∀ w, (zeroValue et).run P w = .ok z w) (x y : Operand) (k : κ) (v : Value) (hx : a.eval x = .map none) (hy : a.eval y = enc k) (hv : z = v) (hk : K v w) : gives P ⟨dst, .lookup t x y false, ty, pos, aft, gd⟩ a w K :=
  g_val v w (by subst hv; have hc := check_run hK w true k; obtain ⟨⟨d, hu, _, _⟩, _⟩ := hK; simp only [execOp, hx, hy]; simp [Instr.lookup, run_underlying ht, hc, hz, Instr.findKey, Result.andThen, run_underlying hu, Instr.findNow, Instr.findAsking]) hk
theorem g_peqC (x : Operand) (p : Option Addr) (b : Bool) (hx : a.eval x = .pointer p) (hb : p.isNone = b) (hk : K (.bool b) w) : gives Tryz.prog ⟨dst, .binOp .eql 30 x (.const (.pointer none)) yt, ty, pos, aft, gd⟩ a w K :=
  g_val (.bool b) w (by subst hb; cases p <;> simp only [execOp, hx] <;> go_simp) hk
end
section
variable {a : Act} {w0 w : World} {R : List HP} {dst : Option Tmp} {ty : TypeId} {pos : String} {aft : Array Edge} {gd : Option (Nat × Bool)} {K : Value → World → Prop}
theorem g_bs73 (x : Operand) (t : Thg) (hx : a.eval x = .agg (tc t).toArray) (h : Ms w0 w R) (hk : ∀ w', Ms w0 w' (blk w.heap.size (tc t) 73 :: R) → K (.slice (some ⟨w.heap.size, 0, none⟩) 1 1) w') : gives Tryz.prog ⟨dst, .buildSlice 43 1 #[(0, x)], ty, pos, aft, gd⟩ a w K := by
  obtain ⟨h1, h2⟩ := turn_alloc w (tc t) 73
  exact g_val _ _ (by simp only [execOp, List.map_toArray, List.map_cons, List.map_nil, hx, Sem.run_bind, run_bs73 w t, Result.andThen_ok, Sem.run_pure]) (hk _ (h.new h1 h2))
theorem g_apH (x y : Operand) (v : Value) (n : Nat) (xs : List Value) (b c : Nat) (news : List Value) (bt : TypeId) (hx : a.eval x = v) (hy : a.eval y = .slice (some ⟨b, 0, none⟩) 1 c) (h : Ms w0 w (row 73 2 v n xs :: blk b news bt :: R)) (hl : news.length = 2) (h1 : ∀ u ∈ news, u.oneCell' = true)
    (hmx : n + 1 ≤ 100000) (hk : ∀ v' w', Ms w0 w' (row 73 2 v' (n + 1) (xs ++ news) :: blk b news bt :: R) → K v' w') :
    gives Tryz.prog ⟨dst, .call { callee := .builtin .append, args := #[x, y], argTypes := #[43, 43] }, ty, pos, aft, gd⟩ a w K := by
  obtain ⟨i, z, h2, h3, h4, h5, h6⟩ := inf73
  exact g_apR x y 43 73 2 i z _ Tryz.underlying43 h2 h3 h4 h5 h6 v n xs b c news bt hx hy h hl h1 (by omega) hmx hk
end
end Go.Proofs.YtcclcemdodoiiaaGreatDoor
