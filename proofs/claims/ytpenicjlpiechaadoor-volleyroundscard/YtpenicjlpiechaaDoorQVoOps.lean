/- What single operations yield on samples, volleys, cells of closures, arrays of 16 bytes and maps keyed by these. -/
import Derived.Test.YtpenicjlpiechaaDoorQLib
import Derived.Test.YtpenicjlpiechaaDoorQMacA
import Derived.Test.YtpenicjlpiechaaDoorQWd
import Derived.Test.YtpenicjlpiechaaDoorQMapm
import Derived.Test.YtpenicjlpiechaaDoorQRunG
import Derived.Lib.Strings
import Derived.WalkKit
import Derived.WalkSpells
import Derived.WalkLawsBesides
import Derived.Laws.StructEq
import Derived.Laws.IdiomStrings
import Derived.Laws.Cover3
import Derived.KernelRfl
namespace Go.Proofs.YtpenicjlpiechaaDoor
set_option maxRecDepth 10000
open Go Go.RowKit
set_option linter.unusedVariables false
set_option linter.unusedSimpArgs false

theorem Ms.tabs {w0 w : World} {L : List HP} (hM : Ms w0 w L) (hT : Tabs w0) : Tabs w := hT.below hM.below hT.size
theorem wrap_id (n : Int) (h1 : -9223372036854775808 ≤ n) (h2 : n ≤ 9223372036854775807) : IntKind.i64.wrap n = n := by rw [IntKind.wrap_i64]; omega
theorem run_build {P : Program} (t : TypeId) (z r : List Value) (fs : Array Field) (ps : Array (Nat × Nat)) (parts : List (Nat × Value)) (hz : ∀ w, (zeroValue t).run P w = .ok (.agg z.toArray) w) (hu : P.underlying t = some (.struct fs))
    (hp : ∀ w, (fs.mapM (fun f => do pure (f.offset, ← sizeOf f.type) : Field → Sem (Nat × Nat))).run P w = .ok ps w) (hr : Instr.fill (ps[·]?) z.toArray parts = some r.toArray) (w : World) : (Instr.build t parts.toArray).run P w = .ok (.agg r.toArray) w := by
  simp only [Instr.build, Sem.run_bind, hz, Result.andThen_ok, run_underlying hu, Value.cells, hp, hr]
  rfl
theorem ar0 : Array.range 0 = #[] := by simp
theorem ar1 : Array.range 1 = #[0] := by rw [Array.range_succ, ar0]; rfl
theorem ar2 : Array.range 2 = #[0, 1] := by rw [Array.range_succ, ar1]; rfl
theorem ar3 : Array.range 3 = #[0, 1, 2] := by rw [Array.range_succ, ar2]; rfl
/-- A sample's cells. -/
def smc (o d b : Int) : List Value := [.int .i64 o, .int .i64 d, .int .i64 b]
theorem one_smc (o d b : Int) : ∀ v ∈ smc o d b, v.oneCell' = true := by
  intro v hv
  simp only [smc, List.mem_cons, List.not_mem_nil, or_false] at hv
  rcases hv with rfl | rfl | rfl <;> rfl
theorem szSm (o d b : Int) : (Tryd.prog.info? 23).map (·.size) = some (smc o d b).length := by
  have h : (Tryd.prog.info? 23).map (·.size) = some 3 := by kernel_rfl
  exact h
theorem zeroSm : ∀ w, (zeroValue 23).run Tryd.prog w = .ok (.agg (smc 0 0 0).toArray) w := by intro w; kernel_rfl
theorem guardSm : Tryd.prog.eqGuardType Tryd.prog.depth 23 = false := by kernel_rfl
theorem fieldsSm : Tryd.prog.underlying 23 = some (.struct (Tryd.prog.fieldsOf 23)) := by kernel_rfl
theorem heldSm : Tryd.prog.stoodInHeld 23 = false := by kernel_rfl
theorem placesSm : ∀ w, ((Tryd.prog.fieldsOf 23).mapM (fun f => do pure (f.offset, ← sizeOf f.type) : Field → Sem (Nat × Nat))).run Tryd.prog w = .ok #[(0, 1), (1, 1), (2, 1)] w := by intro w; kernel_rfl
theorem flSm : (Tryd.prog.fieldsOf 23).toList = [{ name := "Offset", type := 2, offset := 0, embedded := false, tag := "", pkgPath := "", byteOffset := 0 }, { name := "Delay", type := 2, offset := 1, embedded := false, tag := "", pkgPath := "", byteOffset := 8 }, { name := "Bound", type := 2, offset := 2, embedded := false, tag := "", pkgPath := "", byteOffset := 16 }] := by kernel_rfl
theorem equalSm (o d b o2 d2 b2 : Int) (w : World) : (Op.equalIn 10000 23 (.agg (smc o d b).toArray) (.agg (smc o2 d2 b2).toArray)).run Tryd.prog w = .ok (decide (o = o2 ∧ d = d2 ∧ b = b2)) w := by
  rw [run_equalIn_agg w 9999 23 _ _ fieldsSm heldSm, flSm]
  have p0 : ∀ f s r : Int, (part 2 (smc f s r).toArray 0).run Tryd.prog w = .ok (.int .i64 f) w := by intro f s r; simp [part, smc]
  have p1 : ∀ f s r : Int, (part 2 (smc f s r).toArray 1).run Tryd.prog w = .ok (.int .i64 s) w := by intro f s r; simp [part, smc]
  have p2 : ∀ f s r : Int, (part 2 (smc f s r).toArray 2).run Tryd.prog w = .ok (.int .i64 r) w := by intro f s r; simp [part, smc]
  have e2 := fun x y => run_equalIn_int w 9998 2 .i64 .i64 x y Tryd.underlying2
  simp only [Op.eqFields, ne_eq, not_false_eq_true, if_true, Sem.run_bind, p0, p1, p2, Result.andThen_ok, e2, String.reduceEq, Sem.run_ite, Sem.run_pure]
  by_cases h1 : o = o2 <;> by_cases h2 : d = d2 <;> by_cases h3 : b = b2 <;> simp [h1, h2, h3]
theorem szRs (o d b : Int) : (Tryd.prog.info? 28).map (·.size) = some (smc o d b).length := by
  have h : (Tryd.prog.info? 28).map (·.size) = some 3 := by kernel_rfl
  exact h
theorem zeroRs : ∀ w, (zeroValue 28).run Tryd.prog w = .ok (.agg (smc 0 0 0).toArray) w := by intro w; kernel_rfl
theorem guardRs : Tryd.prog.eqGuardType Tryd.prog.depth 28 = false := by kernel_rfl
theorem fieldsRs : Tryd.prog.underlying 28 = some (.struct (Tryd.prog.fieldsOf 28)) := by kernel_rfl
theorem heldRs : Tryd.prog.stoodInHeld 28 = false := by kernel_rfl
theorem placesRs : ∀ w, ((Tryd.prog.fieldsOf 28).mapM (fun f => do pure (f.offset, ← sizeOf f.type) : Field → Sem (Nat × Nat))).run Tryd.prog w = .ok #[(0, 1), (1, 1), (2, 1)] w := by intro w; kernel_rfl
theorem flRs : (Tryd.prog.fieldsOf 28).toList = [{ name := "Offset", type := 2, offset := 0, embedded := false, tag := "", pkgPath := "", byteOffset := 0 }, { name := "Delay", type := 2, offset := 1, embedded := false, tag := "", pkgPath := "", byteOffset := 8 }, { name := "Bound", type := 2, offset := 2, embedded := false, tag := "", pkgPath := "", byteOffset := 16 }] := by kernel_rfl
theorem equalRs (o d b o2 d2 b2 : Int) (w : World) : (Op.equalIn 10000 28 (.agg (smc o d b).toArray) (.agg (smc o2 d2 b2).toArray)).run Tryd.prog w = .ok (decide (o = o2 ∧ d = d2 ∧ b = b2)) w := by
  rw [run_equalIn_agg w 9999 28 _ _ fieldsRs heldRs, flRs]
  have p0 : ∀ f s r : Int, (part 2 (smc f s r).toArray 0).run Tryd.prog w = .ok (.int .i64 f) w := by intro f s r; simp [part, smc]
  have p1 : ∀ f s r : Int, (part 2 (smc f s r).toArray 1).run Tryd.prog w = .ok (.int .i64 s) w := by intro f s r; simp [part, smc]
  have p2 : ∀ f s r : Int, (part 2 (smc f s r).toArray 2).run Tryd.prog w = .ok (.int .i64 r) w := by intro f s r; simp [part, smc]
  have e2 := fun x y => run_equalIn_int w 9998 2 .i64 .i64 x y Tryd.underlying2
  simp only [Op.eqFields, ne_eq, not_false_eq_true, if_true, Sem.run_bind, p0, p1, p2, Result.andThen_ok, e2, String.reduceEq, Sem.run_ite, Sem.run_pure]
  by_cases h1 : o = o2 <;> by_cases h2 : d = d2 <;> by_cases h3 : b = b2 <;> simp [h1, h2, h3]
theorem fields91 : Tryd.prog.underlying 91 = some (.struct (Tryd.prog.fieldsOf 91)) := by kernel_rfl
theorem places91 : ∀ w, ((Tryd.prog.fieldsOf 91).mapM (fun f => do pure (f.offset, ← sizeOf f.type) : Field → Sem (Nat × Nat))).run Tryd.prog w = .ok #[(0, 1), (1, 1), (2, 1), (3, 1)] w := by intro w; kernel_rfl
theorem zero91 : ∀ w, (zeroValue 91).run Tryd.prog w = .ok (.agg ([.string ⟨#[]⟩, .int .i64 0, .map none, .string ⟨#[]⟩] : List Value).toArray) w := by intro w; kernel_rfl
theorem ld2 (w : World) (b o : Nat) (v : Value) (hc : w.cell? ⟨b, o, none⟩ = some v) : (Instr.loadAt 2 (.pointer (some ⟨b, o, none⟩))).run Tryd.prog w = .ok v w := by go_simp
theorem ld3 (w : World) (b o : Nat) (v : Value) (hc : w.cell? ⟨b, o, none⟩ = some v) : (Instr.loadAt 3 (.pointer (some ⟨b, o, none⟩))).run Tryd.prog w = .ok v w := by go_simp
theorem ld4 (w : World) (b o : Nat) (v : Value) (hc : w.cell? ⟨b, o, none⟩ = some v) : (Instr.loadAt 4 (.pointer (some ⟨b, o, none⟩))).run Tryd.prog w = .ok v w := by go_simp
theorem ld5 (w : World) (b o : Nat) (v : Value) (hc : w.cell? ⟨b, o, none⟩ = some v) : (Instr.loadAt 5 (.pointer (some ⟨b, o, none⟩))).run Tryd.prog w = .ok v w := by go_simp
theorem ld9 (w : World) (b o : Nat) (v : Value) (hc : w.cell? ⟨b, o, none⟩ = some v) : (Instr.loadAt 9 (.pointer (some ⟨b, o, none⟩))).run Tryd.prog w = .ok v w := by go_simp
theorem ld25 (w : World) (b o : Nat) (v : Value) (hc : w.cell? ⟨b, o, none⟩ = some v) : (Instr.loadAt 25 (.pointer (some ⟨b, o, none⟩))).run Tryd.prog w = .ok v w := by go_simp
theorem ld34 (w : World) (b o : Nat) (v : Value) (hc : w.cell? ⟨b, o, none⟩ = some v) : (Instr.loadAt 34 (.pointer (some ⟨b, o, none⟩))).run Tryd.prog w = .ok v w := by go_simp
theorem ld48 (w : World) (b o : Nat) (v : Value) (hc : w.cell? ⟨b, o, none⟩ = some v) : (Instr.loadAt 48 (.pointer (some ⟨b, o, none⟩))).run Tryd.prog w = .ok v w := by go_simp
theorem ld63 (w : World) (b o : Nat) (v : Value) (hc : w.cell? ⟨b, o, none⟩ = some v) : (Instr.loadAt 63 (.pointer (some ⟨b, o, none⟩))).run Tryd.prog w = .ok v w := by go_simp
theorem ld89 (w : World) (b o : Nat) (v : Value) (hc : w.cell? ⟨b, o, none⟩ = some v) : (Instr.loadAt 89 (.pointer (some ⟨b, o, none⟩))).run Tryd.prog w = .ok v w := by go_simp
theorem size2 : (Tryd.prog.info? 2).map (·.size) = some 1 := by kernel_rfl
theorem size9 : (Tryd.prog.info? 9).map (·.size) = some 1 := by kernel_rfl
theorem size25 : (Tryd.prog.info? 25).map (·.size) = some 1 := by kernel_rfl
theorem size63 : (Tryd.prog.info? 63).map (·.size) = some 1 := by kernel_rfl
theorem zeroC25 : ∀ w, (zeroValue 25).run Tryd.prog w = .ok (.int .i64 0) w := by intro w; kernel_rfl
theorem zeroC63 : ∀ w, (zeroValue 63).run Tryd.prog w = .ok .nilFunc w := by intro w; kernel_rfl
theorem faSm0 (w : World) (b o : Nat) : (Instr.fieldAt 23 (.pointer (some ⟨b, o, none⟩)) 0).run Tryd.prog w = .ok (.pointer (some ⟨b, o, none⟩)) w := by go_simp
theorem faSm1 (w : World) (b o : Nat) : (Instr.fieldAt 23 (.pointer (some ⟨b, o, none⟩)) 1).run Tryd.prog w = .ok (.pointer (some ⟨b, o + 1, none⟩)) w := by go_simp
theorem faSm2 (w : World) (b o : Nat) : (Instr.fieldAt 23 (.pointer (some ⟨b, o, none⟩)) 2).run Tryd.prog w = .ok (.pointer (some ⟨b, o + 2, none⟩)) w := by go_simp
theorem faRs0 (w : World) (b o : Nat) : (Instr.fieldAt 28 (.pointer (some ⟨b, o, none⟩)) 0).run Tryd.prog w = .ok (.pointer (some ⟨b, o, none⟩)) w := by go_simp
theorem faRs2 (w : World) (b o : Nat) : (Instr.fieldAt 28 (.pointer (some ⟨b, o, none⟩)) 2).run Tryd.prog w = .ok (.pointer (some ⟨b, o + 2, none⟩)) w := by go_simp
theorem faNm0 (w : World) (b o : Nat) : (Instr.fieldAt 60 (.pointer (some ⟨b, o, none⟩)) 0).run Tryd.prog w = .ok (.pointer (some ⟨b, o, none⟩)) w := by go_simp
theorem faNm1 (w : World) (b o : Nat) : (Instr.fieldAt 60 (.pointer (some ⟨b, o, none⟩)) 1).run Tryd.prog w = .ok (.pointer (some ⟨b, o + 1, none⟩)) w := by go_simp
theorem fa91_0 (w : World) (b o : Nat) : (Instr.fieldAt 91 (.pointer (some ⟨b, o, none⟩)) 0).run Tryd.prog w = .ok (.pointer (some ⟨b, o, none⟩)) w := by go_simp
theorem fa91_1 (w : World) (b o : Nat) : (Instr.fieldAt 91 (.pointer (some ⟨b, o, none⟩)) 1).run Tryd.prog w = .ok (.pointer (some ⟨b, o + 1, none⟩)) w := by go_simp
theorem fa91_2 (w : World) (b o : Nat) : (Instr.fieldAt 91 (.pointer (some ⟨b, o, none⟩)) 2).run Tryd.prog w = .ok (.pointer (some ⟨b, o + 2, none⟩)) w := by go_simp
theorem fa91_3 (w : World) (b o : Nat) : (Instr.fieldAt 91 (.pointer (some ⟨b, o, none⟩)) 3).run Tryd.prog w = .ok (.pointer (some ⟨b, o + 3, none⟩)) w := by go_simp
/-- Sixteen bytes. -/
def Dw : Type := {l : List UInt8 // l.length = 16}
instance : DecidableEq Dw := inferInstanceAs (DecidableEq {l : List UInt8 // l.length = 16})
def kA (d : Dw) : Value := .agg (bc d.1).toArray
theorem bc_inj {l m : List UInt8} (h : bc l = bc m) : l = m := by
  have := congrArg (List.map (fun v : Value => match v with | .int _ n => n | _ => 0)) h
  simp only [bc, List.map_map] at this
  have hf : Function.Injective ((fun v : Value => match v with | .int _ n => n | _ => 0) ∘ fun b : UInt8 => Value.int .u8 b.toNat) := fun a b h => by
    simp only [Function.comp] at h
    exact UInt8.toNat_inj.1 (Int.ofNat_inj.1 h)
  exact (List.map_inj_right (fun a b h => hf h)).1 this
theorem equalA (k m : List UInt8) (hk : k.length = 16) (hm : m.length = 16) (d : Nat) (w : World) : (Op.equalIn (d + 1 + 1) 42 (.agg (bc k).toArray) (.agg (bc m).toArray)).run Tryd.prog w = .ok (decide (k = m)) w := by
  rw [Op.equalIn]
  simp only [Sem.run_bind, run_underlying Tryd.underlying42, Result.andThen_ok, Tryd.sizeOf5, Std.Legacy.Range.forIn_eq_forIn_range', Std.Legacy.Range.size, Nat.sub_zero, Nat.add_sub_cancel, Nat.div_one]
  rw [equal_loop 5 d Tryd.underlying5 Tryd.isAgg5 k m (by rw [hk, hm]) w 16 0 (by rw [hk])]
  by_cases hc : k = m <;> simp [hc]
theorem checkA (a0 a1 a2 a3 a4 a5 a6 a7 a8 a9 a10 a11 a12 a13 a14 a15 : UInt8) (w : World) (em : Bool) : (Instr.checkKey em 10000 42 (.agg (bc [a0, a1, a2, a3, a4, a5, a6, a7, a8, a9, a10, a11, a12, a13, a14, a15]).toArray)).run Tryd.prog w = .ok () w := by kernel_rfl
theorem keyA : KeyOk Tryd.prog 42 kA := .asking (d := .array 16 5) Tryd.underlying42 (fun _ _ => rfl) (fun x y h => by
    have h2 := congrArg Array.toList (Value.agg.inj h)
    exact Subtype.ext (bc_inj h2)) (fun w x y => by
    have h := equalA x.1 y.1 x.2 y.2 9998 w
    rw [show decide (x = y) = decide (x.1 = y.1) from decide_eq_decide.2 ⟨fun h => h ▸ rfl, fun h => Subtype.ext h⟩]
    exact h) (fun w em x => by
    obtain ⟨l, hl⟩ := x
    match l, hl with
    | [a0, a1, a2, a3, a4, a5, a6, a7, a8, a9, a10, a11, a12, a13, a14, a15], _ => exact checkA a0 a1 a2 a3 a4 a5 a6 a7 a8 a9 a10 a11 a12 a13 a14 a15 w em) (fun x => by
    have h : ∀ (l : List UInt8) (a b : Value), (a, b) ∈ (bc l).zip (bc l) → Instr.sameBits 9999 a b = true := by
      intro l
      induction l with
      | nil => intro a b h; simp [bc] at h
      | cons c l ih =>
        intro a b h
        simp only [bc, List.map_cons, List.zip_cons_cons, List.mem_cons, Prod.mk.injEq] at h
        rcases h with ⟨rfl, rfl⟩ | h
        · simp [Instr.sameBits]
        · exact ih a b h
    simpa [kA, Instr.sameBits] using h x.1)
theorem szB16 (l : List UInt8) (h : l.length = 16) : (Tryd.prog.info? 42).map (·.size) = some (bc l).length := by
  have h2 : (Tryd.prog.info? 42).map (·.size) = some 16 := by kernel_rfl
  rw [show (bc l).length = 16 from by simp [bc, h]]; exact h2
theorem zeroB16 : ∀ w, (zeroValue 42).run Tryd.prog w = .ok (.agg (bc (List.replicate 16 0)).toArray) w := by intro w; kernel_rfl
theorem bb_len {l m : List UInt8} (h : l.length = 16) (h2 : m.length = 16) : (bc l).length = (bc m).length := by simp [bc, h, h2]
/-- A block that begins by a text's bytes. -/
def byt (b : Nat) (s : ByteArray) : HP where
  P F w := (∀ k, F k ↔ k = b) ∧ ∃ (C : Array Value) (t : TypeId) (e : Nat × Nat), w.heap[b]? = some (.cells C t e) ∧ ∀ (j : Nat) (v : Value), (bc s.data.toList)[j]? = some v → C[j]? = some v
  loc F w w' h hk := ⟨h.1, by obtain ⟨C, t, e, h1, h2⟩ := h.2; exact ⟨C, t, e, by rw [hk b ((h.1 b).2 rfl)]; exact h1, h2⟩⟩
  lt F w h k hk := by obtain rfl := (h.1 k).1 hk; obtain ⟨C, t, e, h1, _⟩ := h.2; exact (Array.getElem?_eq_some_iff.1 h1).1
section
variable {P : Program} {ops : Array Oper} {rest : List Oper} {a : Act} {w w0 : World} {R : List HP} {Q : Exit → Act → World → Prop} {dst : Option Tmp} {ty yt : TypeId} {pos : String} {aft : Array Edge} {gd : Option (Nat × Bool)} {K : Value → World → Prop}
theorem g_beql (x y : Operand) (p q : Bool) (hx : a.eval x = .bool p) (hy : a.eval y = .bool q) (hk : K (.bool (p == q)) w) : gives Tryd.prog ⟨dst, .binOp .eql 4 x y yt, ty, pos, aft, gd⟩ a w K := by
  have h := run_equalIn_bool w 9999 4 p q Tryd.underlying4
  exact g_val (.bool (p == q)) w (by simp [execOp, hx, hy, eqGuard, binOp, Op.equal, Op.maxDepth, h]) hk
theorem g_len (x : Operand) (t e : TypeId) (ao : Option Addr) (n cap : Nat) (r : Int) (ht : Tryd.prog.underlying t = some (.slice e)) (hx : a.eval x = .slice ao n cap) (hr : (n : Int) = r) (hk : K (.int .i64 r) w) : gives Tryd.prog ⟨dst, .call { callee := .builtin .len, args := #[x], argTypes := #[t] }, ty, pos, aft, gd⟩ a w K :=
  g_val (.int .i64 r) w (by subst hr; simp only [execOp, resolve, invoke, builtin, List.map_toArray, List.map_cons, List.map_nil, hx]; go_simp) hk
theorem run_ix (t e : TypeId) (size : Nat) (ht : Tryd.prog.underlying t = some (.slice e)) (hs : ∀ w, (sizeOf e).run Tryd.prog w = .ok size w) (w : World) (b o n cap j : Nat) (h : j < n) : (Instr.indexAt t (.slice (some ⟨b, o, none⟩) n cap) (.int .i64 j)).run Tryd.prog w = .ok (.pointer (some ⟨b, o + j * size, none⟩)) w := by
  have h1 : (j : Int) < (n : Int) := by omega
  simp [Instr.indexAt, asIntOf, run_underlying ht, hs, h1, Addr.add_mid]
  intro hc; omega
theorem g_ix (x y : Operand) (t e : TypeId) (size : Nat) (ht : Tryd.prog.underlying t = some (.slice e)) (hs : ∀ w, (sizeOf e).run Tryd.prog w = .ok size w) (b o n cap j o' : Nat) (i : Int) (hx : a.eval x = .slice (some ⟨b, o, none⟩) n cap) (hy : a.eval y = .int .i64 i) (hi : i = j) (h : j < n) (ho : o + j * size = o') (hk : K (.pointer (some ⟨b, o', none⟩)) w) : gives Tryd.prog ⟨dst, .indexAddr t x y, ty, pos, aft, gd⟩ a w K :=
  g_val _ w (by subst hi; subst ho; simp only [execOp, hx, hy, Sem.run_bind, run_ix t e size ht hs w b o n cap j h, Result.andThen_ok, Sem.run_pure]) hk
theorem results_blk_tmp {fn : Func} {p u : Tmp} {t : TypeId} (hf : fn.results = #[.cell p t, .tmp u]) {a : Act} {w : World} (b : Nat) (cs : List Value) (v : Value) (d : TypeDesc) (hp : a.tmps.getD p undef = .pointer (some ⟨b, 0, none⟩)) (hv : a.tmps.getD u undef = v) (hb : Blk w b cs t)
    (hu : Tryd.prog.underlying t = some d) (hd : d.isRow = true) (hi : (Tryd.prog.info? t).map (·.size) = some cs.length) : (results fn a.tmps).run Tryd.prog w = .ok (.tuple #[.agg cs.toArray, v]) w := by
  have h := run_loadVar_mid (P := Tryd.prog) w b 0 t cs d (by simpa using hb.range 0 cs.length) hu hd hi
  have hp' : a.tmps[p]?.getD undef = .pointer (some ⟨b, 0, none⟩) := by simpa using hp
  have hv' : a.tmps[u]?.getD undef = v := by simpa using hv
  simp [results, hf, asAddr, hp', h, hv']
theorem g_bld (t : TypeId) (ps : List (Nat × Operand)) (vs : List (Nat × Value)) (v : Value) (hv : ps.map (fun x => (x.1, a.eval x.2)) = vs) (hr : (Instr.build t vs.toArray).run P w = .ok v w) (hk : K v w) : gives P ⟨dst, .build t ps.toArray, ty, pos, aft, gd⟩ a w K :=
  g_val v w (by subst hv; simp only [execOp, Sem.run_bind, List.map_toArray, Sem.run_pure, hr, Result.andThen_ok]) hk
theorem g_alloc1 (t : TypeId) (v : Value) (hz : ∀ w, (zeroValue t).run P w = .ok v w) (hv : v.cells = #[v]) (hk : ∀ w', Turn w.heap.size w w' → Blk w' w.heap.size [v] t → K (.pointer (some ⟨w.heap.size, 0, none⟩)) w') : gives P ⟨dst, .alloc t, ty, pos, aft, gd⟩ a w K := by
  obtain ⟨h1, h2⟩ := turn_alloc w [v] t
  unfold gives
  simp only [execOp, Instr.alloc, hz, newVar, newRow, hv, Sem.run_bind, run_newObj, Result.andThen_ok, Sem.run_pure]
  exact hk _ h1 h2
theorem g_mkF (f : FuncId) (caps : List Operand) (vs : List Value) (hv : caps.map a.eval = vs) (hk : K (.func (.func f) #[] vs.toArray) w) : gives P ⟨dst, .makeFunc (.func f) #[] caps.toArray, ty, pos, aft, gd⟩ a w K :=
  g_val _ w (by subst hv; simp [execOp, Instr.makeFunc]) hk
theorem g_callc (x : Operand) (f : FuncId) (args : List Operand) (ts : Array TypeId) (cap : Array Value) (vs : List Value) (hx : a.eval x = .func (.func f) #[] cap) (hc : (callFunc f (vs.toArray ++ cap)).run P w = .ok (.enter f (vs.toArray ++ cap)) w) (hv : args.map a.eval = vs)
    (h : Calls P f (vs.toArray ++ cap) w (fun e w'' => ∃ v, e = .returned v ∧ K v w'')) : gives P ⟨dst, .call { callee := .value x, args := args.toArray, argTypes := ts }, ty, pos, aft, gd⟩ a w K := by
  unfold gives
  simp only [execOp, resolve, hx, Deferred.ofValue, invoke, List.map_toArray, hv, Sem.run_bind, Sem.run_pure, Result.andThen_ok, Array.empty_append, hc]
  exact h
theorem g_lenT (x : Operand) (s : ByteArray) (r : Int) (hx : a.eval x = .string s) (hr : ((s.size : Nat) : Int) = r) (hk : K (.int .i64 r) w) : gives Tryd.prog ⟨dst, .call { callee := .builtin .len, args := #[x], argTypes := #[9] }, ty, pos, aft, gd⟩ a w K :=
  g_val (.int .i64 r) w (by subst hr; simp only [execOp, resolve, invoke, builtin, List.map_toArray, List.map_cons, List.map_nil, hx]; go_simp) hk
theorem g_bneq (x y : Operand) (p q r : Bool) (hx : a.eval x = .bool p) (hy : a.eval y = .bool q) (hr : (p != q) = r) (hk : K (.bool r) w) : gives Tryd.prog ⟨dst, .binOp .neq 4 x y yt, ty, pos, aft, gd⟩ a w K :=
  g_val (.bool r) w (by
    subst hr
    have h := run_equalIn_bool w 9999 4 p q Tryd.underlying4
    simp [execOp, hx, hy, eqGuard, binOp, Op.equal, Op.maxDepth, h]; cases p <;> cases q <;> rfl) hk
theorem g_beq (x y : Operand) (p q r : Bool) (hx : a.eval x = .bool p) (hy : a.eval y = .bool q) (hr : (p == q) = r) (hk : K (.bool r) w) : gives Tryd.prog ⟨dst, .binOp .eql 4 x y yt, ty, pos, aft, gd⟩ a w K := by
  subst hr; exact g_beql x y p q hx hy hk
theorem toList_beq (p q : ByteArray) : (p.toList == q.toList) = decide (p = q) := by
  by_cases h : p = q
  · subst h; simp
  · rw [decide_eq_false h]
    simp only [beq_eq_false_iff_ne, ne_eq]
    intro e
    apply h
    rw [Go.Lib.toList_data, Go.Lib.toList_data] at e
    apply ByteArray.ext
    exact Array.toList_inj.1 e
theorem g_steq (t : TypeId) (x y : Operand) (p q : ByteArray) (b : Bool) (hx : a.eval x = .string p) (hy : a.eval y = .string q) (hb : decide (p = q) = b) (hk : K (.bool b) w) : gives P ⟨dst, .binOp .eql t x y yt, ty, pos, aft, gd⟩ a w K :=
  g_val (.bool b) w (by subst hb; simp [execOp, hx, hy, eqGuard, binOp, Op.stringOp, toList_beq]) hk
theorem g_stne (t : TypeId) (x y : Operand) (p q : ByteArray) (b : Bool) (hx : a.eval x = .string p) (hy : a.eval y = .string q) (hb : decide (p = q) = b) (hk : K (.bool (!b)) w) : gives P ⟨dst, .binOp .neq t x y yt, ty, pos, aft, gd⟩ a w K :=
  g_val (.bool (!b)) w (by subst hb; simp [execOp, hx, hy, eqGuard, binOp, Op.stringOp, toList_beq]) hk
theorem g_bldSm_n  (hk : K (.agg (smc 0 0 0).toArray) w) : gives Tryd.prog ⟨dst, .build 23 #[], ty, pos, aft, gd⟩ a w K :=
  g_bld 23 [] [] _ (by simp only [List.map_cons, List.map_nil]) (run_build _ _ _ _ _ _ zeroSm fieldsSm placesSm rfl w) hk
theorem g_bldSm_012 (x0 x1 x2 : Operand) (v0 v1 v2 : Int) (h0 : a.eval x0 = .int .i64 v0) (h1 : a.eval x1 = .int .i64 v1) (h2 : a.eval x2 = .int .i64 v2) (hk : K (.agg (smc v0 v1 v2).toArray) w) : gives Tryd.prog ⟨dst, .build 23 #[(0, x0), (1, x1), (2, x2)], ty, pos, aft, gd⟩ a w K :=
  g_bld 23 [(0, x0), (1, x1), (2, x2)] [(0, .int .i64 v0), (1, .int .i64 v1), (2, .int .i64 v2)] _ (by simp only [List.map_cons, List.map_nil, h0, h1, h2]) (run_build _ _ _ _ _ _ zeroSm fieldsSm placesSm rfl w) hk
theorem g_bldSm_10 (x1 x0 : Operand) (v1 v0 : Int) (h1 : a.eval x1 = .int .i64 v1) (h0 : a.eval x0 = .int .i64 v0) (hk : K (.agg (smc v0 v1 0).toArray) w) : gives Tryd.prog ⟨dst, .build 23 #[(1, x1), (0, x0)], ty, pos, aft, gd⟩ a w K :=
  g_bld 23 [(1, x1), (0, x0)] [(1, .int .i64 v1), (0, .int .i64 v0)] _ (by simp only [List.map_cons, List.map_nil, h1, h0]) (run_build _ _ _ _ _ _ zeroSm fieldsSm placesSm rfl w) hk
theorem g_bldSm_02 (x0 x2 : Operand) (v0 v2 : Int) (h0 : a.eval x0 = .int .i64 v0) (h2 : a.eval x2 = .int .i64 v2) (hk : K (.agg (smc v0 0 v2).toArray) w) : gives Tryd.prog ⟨dst, .build 23 #[(0, x0), (2, x2)], ty, pos, aft, gd⟩ a w K :=
  g_bld 23 [(0, x0), (2, x2)] [(0, .int .i64 v0), (2, .int .i64 v2)] _ (by simp only [List.map_cons, List.map_nil, h0, h2]) (run_build _ _ _ _ _ _ zeroSm fieldsSm placesSm rfl w) hk
theorem g_bldRs_n  (hk : K (.agg (smc 0 0 0).toArray) w) : gives Tryd.prog ⟨dst, .build 28 #[], ty, pos, aft, gd⟩ a w K :=
  g_bld 28 [] [] _ (by simp only [List.map_cons, List.map_nil]) (run_build _ _ _ _ _ _ zeroRs fieldsRs placesRs rfl w) hk
theorem g_bldRs_012 (x0 x1 x2 : Operand) (v0 v1 v2 : Int) (h0 : a.eval x0 = .int .i64 v0) (h1 : a.eval x1 = .int .i64 v1) (h2 : a.eval x2 = .int .i64 v2) (hk : K (.agg (smc v0 v1 v2).toArray) w) : gives Tryd.prog ⟨dst, .build 28 #[(0, x0), (1, x1), (2, x2)], ty, pos, aft, gd⟩ a w K :=
  g_bld 28 [(0, x0), (1, x1), (2, x2)] [(0, .int .i64 v0), (1, .int .i64 v1), (2, .int .i64 v2)] _ (by simp only [List.map_cons, List.map_nil, h0, h1, h2]) (run_build _ _ _ _ _ _ zeroRs fieldsRs placesRs rfl w) hk
theorem g_eqlSm (x y : Operand) (o d b o2 d2 b2 : Int) (r : Bool) (hx : a.eval x = .agg (smc o d b).toArray) (hy : a.eval y = .agg (smc o2 d2 b2).toArray) (hb : decide (o = o2 ∧ d = d2 ∧ b = b2) = r) (hk : K (.bool r) w) : gives Tryd.prog ⟨dst, .binOp .eql 23 x y yt, ty, pos, aft, gd⟩ a w K :=
  g_val (.bool r) w (by subst hb; simp only [execOp, hx, hy, Sem.run_bind, run_eqGuard_agg w _ _ _ _ _ _ guardSm, run_eql_struct, equalSm, Result.andThen_ok, Sem.run_pure]) hk
theorem g_eqlRs (x y : Operand) (o d b o2 d2 b2 : Int) (r : Bool) (hx : a.eval x = .agg (smc o d b).toArray) (hy : a.eval y = .agg (smc o2 d2 b2).toArray) (hb : decide (o = o2 ∧ d = d2 ∧ b = b2) = r) (hk : K (.bool r) w) : gives Tryd.prog ⟨dst, .binOp .eql 28 x y yt, ty, pos, aft, gd⟩ a w K :=
  g_val (.bool r) w (by subst hb; simp only [execOp, hx, hy, Sem.run_bind, run_eqGuard_agg w _ _ _ _ _ _ guardRs, run_eql_struct, equalRs, Result.andThen_ok, Sem.run_pure]) hk
theorem g_bld91 (x y z : Operand) (k : ByteArray) (r : Int) (m : Nat) (hx : a.eval x = .string k) (hy : a.eval y = .int .i64 r) (hz : a.eval z = .map (some m)) (hk : K (.agg ([.string k, .int .i64 r, .map (some m), .string ⟨#[]⟩] : List Value).toArray) w) : gives Tryd.prog ⟨dst, .build 91 #[(0, x), (1, y), (2, z)], ty, pos, aft, gd⟩ a w K :=
  g_bld 91 [(0, x), (1, y), (2, z)] [(0, .string k), (1, .int .i64 r), (2, .map (some m))] _ (by simp only [List.map_cons, List.map_nil, hx, hy, hz]) (run_build _ _ _ _ _ _ zero91 fields91 places91 rfl w) hk
theorem g_cv2U (x : Operand) (p r : Int) (hx : a.eval x = .int .i64 p) (hr : p % 18446744073709551616 = r) (hk : K (.int .u64 r) w) : gives Tryd.prog ⟨dst, .convert 2 34 x, ty, pos, aft, gd⟩ a w K :=
  g_val (.int .u64 r) w (by subst hr; simp only [execOp, hx]; go_simp; rw [IntKind.wrap_u64]) hk
theorem g_cvU2 (x : Operand) (p r : Int) (hx : a.eval x = .int .u64 p) (hr : IntKind.i64.wrap p = r) (hk : K (.int .i64 r) w) : gives Tryd.prog ⟨dst, .convert 34 2 x, ty, pos, aft, gd⟩ a w K :=
  g_val (.int .i64 r) w (by subst hr; simp only [execOp, hx]; go_simp) hk
theorem g_bytes (x : Operand) (s : ByteArray) (hx : a.eval x = .string s) (h : Ms w0 w R) (hk : ∀ (cap : Nat) w', Ms w0 w' (byt w.heap.size s :: R) → K (.slice (some ⟨w.heap.size, 0, none⟩) s.size cap) w') : gives Tryd.prog ⟨dst, .convert 9 48 x, ty, pos, aft, gd⟩ a w K := by
  have hr := run_bytes_of_string (P := Tryd.prog) w 9 48 5 s Tryd.underlying9 Tryd.underlying48 Tryd.underlying5
  obtain ⟨W, hW⟩ : ∃ W, w.drew.alloc (.cells (bytesRow s (grownCap w s.size 0 5)) 5 ((bytesRow s (grownCap w s.size 0 5)).size, (bytesRow s (grownCap w s.size 0 5)).size + 1)) = W := ⟨_, rfl⟩
  rw [hW] at hr
  have hg : W.heap[w.heap.size]? = some (.cells (bytesRow s (grownCap w s.size 0 5)) 5 ((bytesRow s (grownCap w s.size 0 5)).size, (bytesRow s (grownCap w s.size 0 5)).size + 1)) := by rw [← hW]; exact heap_alloc_new w.drew _
  have hb : Below w.heap.size w W := by rw [← hW]; exact ((Below.refl _ _).drew).alloc (Nat.le_refl _) _
  refine g_val _ W (by simp only [execOp, hx, Sem.run_bind, hr, Result.andThen_ok, Sem.run_pure]) (hk (grownCap w s.size 0 5) W ?_)
  obtain ⟨F, h1, h2⟩ := h.mem
  refine ⟨h.below.trans (hb.mono h.below.size), fun k => k = w.heap.size ∨ F k, ⟨fun k => k = w.heap.size, F, ⟨fun k => Iff.rfl, _, _, _, hg, fun j v hv => ?_⟩, h1.loc (fun k hk => hb.block k (h1.lt k hk)), fun k => Iff.rfl, ?_⟩, ?_⟩
  · unfold bytesRow
    have hj : j < s.data.size := by
      have := (List.getElem?_eq_some_iff.1 hv).1
      simpa [bc] using this
    rw [Array.getElem?_append_left (by simpa using hj), Array.getElem?_map]
    simp only [bc, List.getElem?_map, Array.getElem?_toList] at hv
    exact hv
  · rintro k rfl hk
    exact absurd (h1.lt _ hk) (by omega)
  · rintro k (rfl | hk)
    · exact h.below.size
    · exact h2 k hk
theorem g_arr (x : Operand) (b n cap : Nat) (hx : a.eval x = .slice (some ⟨b, 0, none⟩) n cap) (hn : 16 ≤ n) (hk : K (.pointer (some ⟨b, 0, none⟩)) w) : gives Tryd.prog ⟨dst, .sliceToArrayPointer 42 x, ty, pos, aft, gd⟩ a w K :=
  g_val _ w (by simp only [execOp, hx, Sem.run_bind, run_arrayAt w 42 _ 16 _ n cap Tryd.underlying42 hn, Result.andThen_ok, Sem.run_pure]) hk
theorem g_ldB (x : Operand) (b : Nat) (s : ByteArray) (hx : a.eval x = .pointer (some ⟨b, 0, none⟩)) (hs : s.data.toList.length = 16) (h : Ms w0 w (byt b s :: R)) (hk : K (.agg (bc s.data.toList).toArray) w) : gives Tryd.prog ⟨dst, .load 42 x, ty, pos, aft, gd⟩ a w K := by
  obtain ⟨F, ⟨F1, F2, ⟨h1, C, t, e, h2, h3⟩, h4⟩, h5⟩ := h.mem
  have hr : w.rangeAt b 0 (bc s.data.toList) := fun j v hv => by
    rw [Nat.zero_add, cell_of_row w b j C t e h2]
    exact h3 j v hv
  exact g_val _ w (by simp only [execOp, hx, Sem.run_bind, run_loadAt_mid w b 0 42 _ _ hr Tryd.underlying42 rfl (szB16 _ hs), Result.andThen_ok, Sem.run_pure]) hk
theorem g_peqV (x : Operand) (p : Option Addr) (b : Bool) (hx : a.eval x = .pointer p) (hb : p.isNone = b) (hk : K (.bool b) w) : gives Tryd.prog ⟨dst, .binOp .eql 43 x (.const (.pointer none)) yt, ty, pos, aft, gd⟩ a w K :=
  g_val (.bool b) w (by subst hb; cases p <;> simp only [execOp, hx] <;> go_simp) hk
theorem g_bsE2 (x0 x1 : Operand) (v0 v1 : Int) (h_0 : a.eval x0 = .int .i64 v0) (h_1 : a.eval x1 = .int .i64 v1) (h : Ms w0 w R) (hk : ∀ w', Ms w0 w' (blk w.heap.size [.int .i64 v0, .int .i64 v1] 25 :: R) → K (.slice (some ⟨w.heap.size, 0, none⟩) 2 2) w') : gives Tryd.prog ⟨dst, .buildSlice 98 2 #[(0, x0), (1, x1)], ty, pos, aft, gd⟩ a w K := by
  obtain ⟨h1, h2⟩ := turn_alloc w [.int .i64 v0, .int .i64 v1] 25
  have hr : (Instr.buildSlice 98 2 #[(0, .int .i64 v0), (1, .int .i64 v1)]).run Tryd.prog w = .ok (.slice (some ⟨w.heap.size, 0, none⟩) 2 2) (w.alloc (.cells #[.int .i64 v0, .int .i64 v1] 25)) := by
    simp [Instr.buildSlice, run_underlying Tryd.underlying98, Tryd.sizeOf25, Tryd.zeroValue25, Instr.fill, newRow, Value.cells, ar2]
  exact g_val _ _ (by simp only [execOp, List.map_toArray, List.map_cons, List.map_nil, h_0, h_1, Sem.run_bind, hr, Result.andThen_ok, Sem.run_pure]) (hk _ (h.new h1 h2))
theorem g_bsE3 (x0 x1 x2 : Operand) (v0 v1 v2 : Int) (h_0 : a.eval x0 = .int .i64 v0) (h_1 : a.eval x1 = .int .i64 v1) (h_2 : a.eval x2 = .int .i64 v2) (h : Ms w0 w R) (hk : ∀ w', Ms w0 w' (blk w.heap.size [.int .i64 v0, .int .i64 v1, .int .i64 v2] 25 :: R) → K (.slice (some ⟨w.heap.size, 0, none⟩) 3 3) w') : gives Tryd.prog ⟨dst, .buildSlice 98 3 #[(0, x0), (1, x1), (2, x2)], ty, pos, aft, gd⟩ a w K := by
  obtain ⟨h1, h2⟩ := turn_alloc w [.int .i64 v0, .int .i64 v1, .int .i64 v2] 25
  have hr : (Instr.buildSlice 98 3 #[(0, .int .i64 v0), (1, .int .i64 v1), (2, .int .i64 v2)]).run Tryd.prog w = .ok (.slice (some ⟨w.heap.size, 0, none⟩) 3 3) (w.alloc (.cells #[.int .i64 v0, .int .i64 v1, .int .i64 v2] 25)) := by
    simp [Instr.buildSlice, run_underlying Tryd.underlying98, Tryd.sizeOf25, Tryd.zeroValue25, Instr.fill, newRow, Value.cells, ar3]
  exact g_val _ _ (by simp only [execOp, List.map_toArray, List.map_cons, List.map_nil, h_0, h_1, h_2, Sem.run_bind, hr, Result.andThen_ok, Sem.run_pure]) (hk _ (h.new h1 h2))
end
theorem kf10 (vs : Array Value) (w : World) : (callFunc 10 vs).run Tryd.prog w = .ok (.enter 10 vs) w := by go_simp
theorem kf11 (vs : Array Value) (w : World) : (callFunc 11 vs).run Tryd.prog w = .ok (.enter 11 vs) w := by go_simp
theorem kf12 (vs : Array Value) (w : World) : (callFunc 12 vs).run Tryd.prog w = .ok (.enter 12 vs) w := by go_simp
theorem kf13 (vs : Array Value) (w : World) : (callFunc 13 vs).run Tryd.prog w = .ok (.enter 13 vs) w := by go_simp
theorem kf14 (vs : Array Value) (w : World) : (callFunc 14 vs).run Tryd.prog w = .ok (.enter 14 vs) w := by go_simp
theorem kf17 (vs : Array Value) (w : World) : (callFunc 17 vs).run Tryd.prog w = .ok (.enter 17 vs) w := by go_simp
theorem kf18 (vs : Array Value) (w : World) : (callFunc 18 vs).run Tryd.prog w = .ok (.enter 18 vs) w := by go_simp
theorem kf19 (vs : Array Value) (w : World) : (callFunc 19 vs).run Tryd.prog w = .ok (.enter 19 vs) w := by go_simp
theorem kf20 (vs : Array Value) (w : World) : (callFunc 20 vs).run Tryd.prog w = .ok (.enter 20 vs) w := by go_simp
theorem kf22 (vs : Array Value) (w : World) : (callFunc 22 vs).run Tryd.prog w = .ok (.enter 22 vs) w := by go_simp
theorem kf23 (vs : Array Value) (w : World) : (callFunc 23 vs).run Tryd.prog w = .ok (.enter 23 vs) w := by go_simp
theorem kf24 (vs : Array Value) (w : World) : (callFunc 24 vs).run Tryd.prog w = .ok (.enter 24 vs) w := by go_simp
theorem kf25 (vs : Array Value) (w : World) : (callFunc 25 vs).run Tryd.prog w = .ok (.enter 25 vs) w := by go_simp
theorem kf26 (vs : Array Value) (w : World) : (callFunc 26 vs).run Tryd.prog w = .ok (.enter 26 vs) w := by go_simp
theorem kf27 (vs : Array Value) (w : World) : (callFunc 27 vs).run Tryd.prog w = .ok (.enter 27 vs) w := by go_simp
theorem kf28 (vs : Array Value) (w : World) : (callFunc 28 vs).run Tryd.prog w = .ok (.enter 28 vs) w := by go_simp
theorem kf29 (vs : Array Value) (w : World) : (callFunc 29 vs).run Tryd.prog w = .ok (.enter 29 vs) w := by go_simp
theorem kf30 (vs : Array Value) (w : World) : (callFunc 30 vs).run Tryd.prog w = .ok (.enter 30 vs) w := by go_simp
theorem kf31 (vs : Array Value) (w : World) : (callFunc 31 vs).run Tryd.prog w = .ok (.enter 31 vs) w := by go_simp
theorem kf33 (vs : Array Value) (w : World) : (callFunc 33 vs).run Tryd.prog w = .ok (.enter 33 vs) w := by go_simp
theorem kf34 (vs : Array Value) (w : World) : (callFunc 34 vs).run Tryd.prog w = .ok (.enter 34 vs) w := by go_simp
theorem kf35 (vs : Array Value) (w : World) : (callFunc 35 vs).run Tryd.prog w = .ok (.enter 35 vs) w := by go_simp
theorem kf36 (vs : Array Value) (w : World) : (callFunc 36 vs).run Tryd.prog w = .ok (.enter 36 vs) w := by go_simp
theorem kf39 (vs : Array Value) (w : World) : (callFunc 39 vs).run Tryd.prog w = .ok (.enter 39 vs) w := by go_simp
theorem kf40 (vs : Array Value) (w : World) : (callFunc 40 vs).run Tryd.prog w = .ok (.enter 40 vs) w := by go_simp
theorem kf41 (vs : Array Value) (w : World) : (callFunc 41 vs).run Tryd.prog w = .ok (.enter 41 vs) w := by go_simp
theorem kf45 (vs : Array Value) (w : World) : (callFunc 45 vs).run Tryd.prog w = .ok (.enter 45 vs) w := by go_simp
theorem kf46 (vs : Array Value) (w : World) : (callFunc 46 vs).run Tryd.prog w = .ok (.enter 46 vs) w := by go_simp
theorem kf47 (vs : Array Value) (w : World) : (callFunc 47 vs).run Tryd.prog w = .ok (.enter 47 vs) w := by go_simp
theorem kf48 (vs : Array Value) (w : World) : (callFunc 48 vs).run Tryd.prog w = .ok (.enter 48 vs) w := by go_simp
theorem kf49 (vs : Array Value) (w : World) : (callFunc 49 vs).run Tryd.prog w = .ok (.enter 49 vs) w := by go_simp
theorem kf51 (vs : Array Value) (w : World) : (callFunc 51 vs).run Tryd.prog w = .ok (.enter 51 vs) w := by go_simp
theorem kf52 (vs : Array Value) (w : World) : (callFunc 52 vs).run Tryd.prog w = .ok (.enter 52 vs) w := by go_simp
theorem kf53 (vs : Array Value) (w : World) : (callFunc 53 vs).run Tryd.prog w = .ok (.enter 53 vs) w := by go_simp
theorem kf54 (vs : Array Value) (w : World) : (callFunc 54 vs).run Tryd.prog w = .ok (.enter 54 vs) w := by go_simp
theorem kf55 (vs : Array Value) (w : World) : (callFunc 55 vs).run Tryd.prog w = .ok (.enter 55 vs) w := by go_simp
theorem kf56 (vs : Array Value) (w : World) : (callFunc 56 vs).run Tryd.prog w = .ok (.enter 56 vs) w := by go_simp
theorem kf58 (vs : Array Value) (w : World) : (callFunc 58 vs).run Tryd.prog w = .ok (.enter 58 vs) w := by go_simp
theorem kf62 (vs : Array Value) (w : World) : (callFunc 62 vs).run Tryd.prog w = .ok (.enter 62 vs) w := by go_simp
theorem kf66 (vs : Array Value) (w : World) : (callFunc 66 vs).run Tryd.prog w = .ok (.enter 66 vs) w := by go_simp
theorem kf68 (vs : Array Value) (w : World) : (callFunc 68 vs).run Tryd.prog w = .ok (.enter 68 vs) w := by go_simp
theorem kf69 (vs : Array Value) (w : World) : (callFunc 69 vs).run Tryd.prog w = .ok (.enter 69 vs) w := by go_simp
theorem kf76 (vs : Array Value) (w : World) : (callFunc 76 vs).run Tryd.prog w = .ok (.enter 76 vs) w := by go_simp
theorem kf77 (vs : Array Value) (w : World) : (callFunc 77 vs).run Tryd.prog w = .ok (.enter 77 vs) w := by go_simp
theorem kf78 (vs : Array Value) (w : World) : (callFunc 78 vs).run Tryd.prog w = .ok (.enter 78 vs) w := by go_simp
end Go.Proofs.YtpenicjlpiechaaDoor
