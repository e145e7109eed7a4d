/- What single operations on buffers, things and texts yield; buffers, the program's and the reference's, as parts of memory. -/
import Derived.Test.YtpkjocibgmjhdaaProg
import Derived.Test.YtpkjocibgmjhdaaGOps
import Derived.Test.YtpkjocibgmjhdaaRow
import Derived.Test.YtpkjocibgmjhdaaMapm
import Derived.Test.YtpkjocibgmjhdaaLone
import Derived.Test.YtpkjocibgmjhdaaBfMath
import Derived.KernelRfl
import Derived.Lib.Strings
import Derived.WalkKit
import Derived.WalkSpells
import Derived.WalkLawsBesides
import Derived.Laws.StructEq
import Derived.Conc.SmallLaws
namespace Go.Proofs.Ytpkjocibgmjhdaa
set_option maxRecDepth 10000
open Go Go.RowKit
set_option linter.unusedVariables false
set_option linter.unusedSimpArgs false
/-- What the walk does not look into. -/
structure Shut (p : Prop) : Prop where
  out : p
theorem wrap_id (n : Int) (h1 : -9223372036854775808 ≤ n) (h2 : n ≤ 9223372036854775807) : IntKind.i64.wrap n = n := by
  rw [IntKind.wrap_i64]; omega
def kI (i : Int) : Value := .int .i64 i
def kS (s : ByteArray) : Value := .string s
theorem ba_beq (x y : ByteArray) : (x == y) = decide (x = y) := by
  obtain ⟨p⟩ := x
  obtain ⟨q⟩ := y
  show (p == q) = _
  by_cases h : p = q
  · subst h; simp
  · rw [decide_eq_false (fun e => h (by injection e))]
    exact beq_eq_false_iff_ne.2 h
theorem keyI : KeyOk Try.prog 3 kI := ⟨⟨.int .i64, Try.underlying3, fun _ => rfl, fun x y => by simp only [kI, Instr.sameNow, if_true]; congr 1⟩, fun x => by simp [kI, Instr.sameBits]⟩
theorem keyS : KeyOk Try.prog 9 kS := ⟨⟨.string, Try.underlying9, fun _ => trivial, fun x y => by simp only [kS, Instr.sameNow]; congr 1; exact ba_beq x y⟩, fun x => by simp only [kS, Instr.sameBits]; exact (ba_beq x x).trans (decide_eq_true rfl)⟩
section
variable {P : Program} {ops : Array Oper} {rest : List Oper} {a : Act} {w : World} {Q : Exit → Act → World → Prop} {dst : Option Tmp} {ty yt : TypeId} {pos : String} {aft : Array Edge} {gd : Option (Nat × Bool)} {K : Value → World → Prop}
theorem toList_beq (p q : ByteArray) : (p.toList == q.toList) = decide (p = q) := by
  by_cases h : p = q
  · subst h; simp
  · rw [decide_eq_false h]
    simp only [beq_eq_false_iff_ne, ne_eq]
    intro e
    apply h
    rw [Go.Lib.toList_data, Go.Lib.toList_data] at e
    apply ByteArray.ext
    exact Array.toList_inj.1 e
theorem g_steq (t : TypeId) (x y : Operand) (p q : ByteArray) (b : Bool) (hx : a.eval x = .string p) (hy : a.eval y = .string q) (hb : decide (p = q) = b) (hk : K (.bool b) w) : gives P ⟨dst, .binOp .eql t x y yt, ty, pos, aft, gd⟩ a w K :=
  g_val (.bool b) w (by subst hb; simp [execOp, hx, hy, eqGuard, binOp, Op.stringOp, toList_beq]) hk
theorem g_stne (t : TypeId) (x y : Operand) (p q : ByteArray) (b : Bool) (hx : a.eval x = .string p) (hy : a.eval y = .string q) (hb : decide (p = q) = b) (hk : K (.bool (!b)) w) : gives P ⟨dst, .binOp .neq t x y yt, ty, pos, aft, gd⟩ a w K :=
  g_val (.bool (!b)) w (by subst hb; simp [execOp, hx, hy, eqGuard, binOp, Op.stringOp, toList_beq]) hk
end
/-! ### Parts -/
/-- A thing's cells. -/
def tc (t : Thg) : List Value := [.int .i64 t.1, .string t.2]
def tcs (L : List Thg) : List Value := L.flatMap tc
/-- The reference's buffer at p. -/
def rb (p : Nat) (each slots d : Int) (L : List Thg) : HP :=
  ex fun v : Value => [blk p [.int .i64 each, .int .i64 slots, .int .i64 d, v] 44, row 64 2 v L.length (tcs L)]
/-- An interval's channel, as the map has it. -/
def mv (e : Int × Nat) : Int × Value := (e.1, .chan (some e.2))
/-- The channels of these intervals. -/
def chs (each : Nat) (L : List Thg) (E : List (Int × Nat)) : List HP := E.map fun e => ch e.2 each ((ofI e.1 L).map Value.string)
/-- The map's keys are the intervals that have some; no channel holds more than it has room for. -/
structure Bu (each : Nat) (E : List (Int × Nat)) (L : List Thg) : Prop where
  keys : (E.map (·.1)).Nodup
  dom : ∀ i, i ∈ E.map (·.1) ↔ ∃ t ∈ L, t.1 = i
  full : ∀ i, (ofI i L).length ≤ each
  low : ∀ t ∈ L, 1 ≤ t.1 ∧ t.1 ≤ 9223372036854775807
/-- The program's buffer at p, its map's block and its channels' known. -/
def bo (p m : Nat) (each : Nat) (slots d : Int) (L : List Thg) (E : List (Int × Nat)) : List HP :=
  blk p [.int .i64 ((each : Nat) : Int), .int .i64 slots, .map (some m), .int .i64 d] 60 :: mp kI m (E.map mv) :: chs each L E
/-- The program's buffer at p. -/
def bf (p : Nat) (each : Nat) (slots d : Int) (L : List Thg) : HP :=
  ex fun x : Nat × List (Int × Nat) => pu (Bu each x.2 L) :: bo p x.1 each slots d L x.2
section
variable {w0 w : World} {R : List HP} {p m each : Nat} {slots d : Int} {L : List Thg} {E : List (Int × Nat)}
theorem bf_open (h : Ms w0 w (bf p each slots d L :: R)) : ∃ m E, Bu each E L ∧ Ms w0 w (bo p m each slots d L E ++ R) := by
  obtain ⟨⟨m, E⟩, h⟩ := h.opn
  obtain ⟨h1, h2⟩ := h.unpu
  exact ⟨m, E, h1, h2⟩
theorem bf_mk (h : Ms w0 w (bo p m each slots d L E ++ R)) (hB : Bu each E L) : Ms w0 w (bf p each slots d L :: R) := Ms.shut (m, E) (Ms.mkpu hB h)
theorem star_perm {A B : List HP} (h : A.Perm B) : ∀ {F : Nat → Prop} {w : World}, Star A F w → Star B F w := by
  induction h with
  | nil => exact fun h => h
  | cons x _ ih => rintro F w ⟨F1, F2, h1, h2, h3⟩; exact ⟨F1, F2, h1, ih h2, h3⟩
  | swap x y l => exact fun h => h.swap
  | trans _ _ h1 h2 => exact fun h => h2 (h1 h)
theorem Ms.perm {A B : List HP} (hp : A.Perm B) (h : Ms w0 w A) : Ms w0 w B := by
  obtain ⟨F, h1, h2⟩ := h.mem
  exact ⟨h.below, F, star_perm hp h1, h2⟩
/-- An interval's channel to the head. -/
theorem chs_at {i : Int} {c : Nat} {E1 E2 : List (Int × Nat)} : (chs each L (E1 ++ (i, c) :: E2)).Perm (ch c each ((ofI i L).map Value.string) :: (chs each L E1 ++ chs each L E2)) := by
  unfold chs
  rw [List.map_append, List.map_cons]
  exact List.perm_middle
theorem chs_same {L' : List Thg} (h : ∀ e ∈ E, ofI e.1 L' = ofI e.1 L) : chs each L' E = chs each L E := by
  unfold chs
  exact List.map_congr_left fun e he => by rw [h e he]
theorem look_in {i : Int} {c : Nat} {E1 E2 : List (Int × Nat)} (h : ((E1 ++ (i, c) :: E2).map (·.1)).Nodup) : mlook ((E1 ++ (i, c) :: E2).map mv) i = some (.chan (some c)) := by
  refine mlook_some (j := E1.length) ?_ ?_
  · rw [List.map_map]; exact h
  · rw [List.getElem?_map, List.getElem?_append_right (Nat.le_refl _), Nat.sub_self]; rfl
theorem look_out {i : Int} (h : i ∉ E.map (·.1)) : mlook (E.map mv) i = none := by
  refine mlook_none ?_
  rw [List.map_map]; exact h
end
theorem ld3 (w : World) (b o : Nat) (v : Value) (hc : w.cell? ⟨b, o, none⟩ = some v) : (Instr.loadAt 3 (.pointer (some ⟨b, o, none⟩))).run Try.prog w = .ok v w := by go_simp
theorem ld4 (w : World) (b o : Nat) (v : Value) (hc : w.cell? ⟨b, o, none⟩ = some v) : (Instr.loadAt 4 (.pointer (some ⟨b, o, none⟩))).run Try.prog w = .ok v w := by go_simp
theorem ld5 (w : World) (b o : Nat) (v : Value) (hc : w.cell? ⟨b, o, none⟩ = some v) : (Instr.loadAt 5 (.pointer (some ⟨b, o, none⟩))).run Try.prog w = .ok v w := by go_simp
theorem ld9 (w : World) (b o : Nat) (v : Value) (hc : w.cell? ⟨b, o, none⟩ = some v) : (Instr.loadAt 9 (.pointer (some ⟨b, o, none⟩))).run Try.prog w = .ok v w := by go_simp
theorem ld36 (w : World) (b o : Nat) (v : Value) (hc : w.cell? ⟨b, o, none⟩ = some v) : (Instr.loadAt 36 (.pointer (some ⟨b, o, none⟩))).run Try.prog w = .ok v w := by go_simp
theorem ld39 (w : World) (b o : Nat) (v : Value) (hc : w.cell? ⟨b, o, none⟩ = some v) : (Instr.loadAt 39 (.pointer (some ⟨b, o, none⟩))).run Try.prog w = .ok v w := by go_simp
theorem ld42 (w : World) (b o : Nat) (v : Value) (hc : w.cell? ⟨b, o, none⟩ = some v) : (Instr.loadAt 42 (.pointer (some ⟨b, o, none⟩))).run Try.prog w = .ok v w := by go_simp
theorem ld58 (w : World) (b o : Nat) (v : Value) (hc : w.cell? ⟨b, o, none⟩ = some v) : (Instr.loadAt 58 (.pointer (some ⟨b, o, none⟩))).run Try.prog w = .ok v w := by go_simp
theorem size3 : (Try.prog.info? 3).map (·.size) = some 1 := by kernel_rfl
theorem size42 : (Try.prog.info? 42).map (·.size) = some 1 := by kernel_rfl
theorem size39 : (Try.prog.info? 39).map (·.size) = some 1 := by kernel_rfl
theorem size36 : (Try.prog.info? 36).map (·.size) = some 1 := by kernel_rfl
theorem fa60_0 (w : World) (b o : Nat) : (Instr.fieldAt 60 (.pointer (some ⟨b, o, none⟩)) 0).run Try.prog w = .ok (.pointer (some ⟨b, o, none⟩)) w := by go_simp
theorem fa60_1 (w : World) (b o : Nat) : (Instr.fieldAt 60 (.pointer (some ⟨b, o, none⟩)) 1).run Try.prog w = .ok (.pointer (some ⟨b, o + 1, none⟩)) w := by go_simp
theorem fa60_2 (w : World) (b o : Nat) : (Instr.fieldAt 60 (.pointer (some ⟨b, o, none⟩)) 2).run Try.prog w = .ok (.pointer (some ⟨b, o + 2, none⟩)) w := by go_simp
theorem fa60_3 (w : World) (b o : Nat) : (Instr.fieldAt 60 (.pointer (some ⟨b, o, none⟩)) 3).run Try.prog w = .ok (.pointer (some ⟨b, o + 3, none⟩)) w := by go_simp
theorem fa44_0 (w : World) (b o : Nat) : (Instr.fieldAt 44 (.pointer (some ⟨b, o, none⟩)) 0).run Try.prog w = .ok (.pointer (some ⟨b, o, none⟩)) w := by go_simp
theorem fa44_1 (w : World) (b o : Nat) : (Instr.fieldAt 44 (.pointer (some ⟨b, o, none⟩)) 1).run Try.prog w = .ok (.pointer (some ⟨b, o + 1, none⟩)) w := by go_simp
theorem fa44_2 (w : World) (b o : Nat) : (Instr.fieldAt 44 (.pointer (some ⟨b, o, none⟩)) 2).run Try.prog w = .ok (.pointer (some ⟨b, o + 2, none⟩)) w := by go_simp
theorem fa44_3 (w : World) (b o : Nat) : (Instr.fieldAt 44 (.pointer (some ⟨b, o, none⟩)) 3).run Try.prog w = .ok (.pointer (some ⟨b, o + 3, none⟩)) w := by go_simp
theorem fa64_0 (w : World) (b o : Nat) : (Instr.fieldAt 64 (.pointer (some ⟨b, o, none⟩)) 0).run Try.prog w = .ok (.pointer (some ⟨b, o, none⟩)) w := by go_simp
theorem fa64_1 (w : World) (b o : Nat) : (Instr.fieldAt 64 (.pointer (some ⟨b, o, none⟩)) 1).run Try.prog w = .ok (.pointer (some ⟨b, o + 1, none⟩)) w := by go_simp
theorem fa32_0 (w : World) (b o : Nat) : (Instr.fieldAt 32 (.pointer (some ⟨b, o, none⟩)) 0).run Try.prog w = .ok (.pointer (some ⟨b, o, none⟩)) w := by go_simp
theorem fa32_1 (w : World) (b o : Nat) : (Instr.fieldAt 32 (.pointer (some ⟨b, o, none⟩)) 1).run Try.prog w = .ok (.pointer (some ⟨b, o + 1, none⟩)) w := by go_simp
theorem fa32_2 (w : World) (b o : Nat) : (Instr.fieldAt 32 (.pointer (some ⟨b, o, none⟩)) 2).run Try.prog w = .ok (.pointer (some ⟨b, o + 2, none⟩)) w := by go_simp
section
variable {ops : Array Oper} {rest : List Oper} {a : Act} {w : World} {Q : Exit → Act → World → Prop} {dst : Option Tmp} {ty yt : TypeId} {pos : String} {aft : Array Edge} {gd : Option (Nat × Bool)} {K : Value → World → Prop}
theorem g_bld60 (x y z : Operand) (e s : Int) (m : Option Nat) (hx : a.eval x = .int .i64 e) (hy : a.eval y = .int .i64 s) (hz : a.eval z = .map m) (hk : K (.agg ([.int .i64 e, .int .i64 s, .map m, .int .i64 0] : List Value).toArray) w) : gives Try.prog ⟨dst, .build 60 #[(0, x), (1, y), (2, z)], ty, pos, aft, gd⟩ a w K :=
  g_val _ w (by simp only [execOp, hx, hy, hz, List.map_toArray, List.map_cons, List.map_nil]; go_simp; try rfl) hk
theorem g_bld44 (x y : Operand) (e s : Int) (hx : a.eval x = .int .i64 e) (hy : a.eval y = .int .i64 s) (hk : K (.agg ([.int .i64 e, .int .i64 s, .int .i64 0, .slice none 0 0] : List Value).toArray) w) : gives Try.prog ⟨dst, .build 44 #[(0, x), (1, y)], ty, pos, aft, gd⟩ a w K :=
  g_val _ w (by simp only [execOp, hx, hy, List.map_toArray, List.map_cons, List.map_nil]; go_simp; try rfl) hk
theorem g_bld64 (x y : Operand) (i : Int) (s : ByteArray) (hx : a.eval x = .int .i64 i) (hy : a.eval y = .string s) (hk : K (.agg (tc (i, s)).toArray) w) : gives Try.prog ⟨dst, .build 64 #[(0, x), (1, y)], ty, pos, aft, gd⟩ a w K :=
  g_val _ w (by simp only [execOp, hx, hy, List.map_toArray, List.map_cons, List.map_nil]; go_simp; try rfl) hk
theorem g_peq (x : Operand) (p : Option Addr) (b : Bool) (hx : a.eval x = .pointer p) (hb : p.isNone = b) (hk : K (.bool b) w) : gives Try.prog ⟨dst, .binOp .eql 24 x (.const (.pointer none)) yt, ty, pos, aft, gd⟩ a w K :=
  g_val (.bool b) w (by subst hb; cases p <;> simp only [execOp, hx] <;> go_simp) hk
theorem g_pne (x : Operand) (p : Option Addr) (b : Bool) (hx : a.eval x = .pointer p) (hb : p.isSome = b) (hk : K (.bool b) w) : gives Try.prog ⟨dst, .binOp .neq 28 x (.const (.pointer none)) yt, ty, pos, aft, gd⟩ a w K :=
  g_val (.bool b) w (by subst hb; cases p <;> simp only [execOp, hx] <;> go_simp) hk
theorem g_pn24 (x : Operand) (p : Option Addr) (b : Bool) (hx : a.eval x = .pointer p) (hb : p.isSome = b) (hk : K (.bool b) w) : gives Try.prog ⟨dst, .binOp .neq 24 x (.const (.pointer none)) yt, ty, pos, aft, gd⟩ a w K :=
  g_val (.bool b) w (by subst hb; cases p <;> simp only [execOp, hx] <;> go_simp) hk
theorem run_eqC (w : World) (d : Nat) (p q : Option Nat) : (Op.equalIn (d + 1) 61 (.chan p) (.chan q)).run Try.prog w = .ok (p == q) w := by
  simp [Op.equalIn, run_underlying Try.underlying61]
theorem ar0 : Array.range 0 = #[] := by simp
theorem ar1 : Array.range 1 = #[0] := by rw [Array.range_succ, ar0]; rfl
theorem ar2 : Array.range 2 = #[0, 1] := by rw [Array.range_succ, ar1]; rfl
theorem g_ceq (x : Operand) (p : Option Nat) (b : Bool) (hx : a.eval x = .chan p) (hb : p.isNone = b) (hk : K (.bool b) w) : gives Try.prog ⟨dst, .binOp .eql 61 x (.const (.chan none)) yt, ty, pos, aft, gd⟩ a w K :=
  g_val (.bool b) w (by subst hb; have e : a.eval (.const (.chan none)) = .chan none := rfl; cases p <;> simp [execOp, hx, e, eqGuard, binOp, Op.equal, Op.maxDepth, run_eqC]) hk
theorem g_beq (x y : Operand) (p q r : Bool) (hx : a.eval x = .bool p) (hy : a.eval y = .bool q) (hr : (p == q) = r) (hk : K (.bool r) w) : gives Try.prog ⟨dst, .binOp .eql 4 x y yt, ty, pos, aft, gd⟩ a w K :=
  g_val (.bool r) w (by subst hr; simp only [execOp, hx, hy]; go_simp) hk
theorem g_bne (x y : Operand) (p q r : Bool) (hx : a.eval x = .bool p) (hy : a.eval y = .bool q) (hr : (p != q) = r) (hk : K (.bool r) w) : gives Try.prog ⟨dst, .binOp .neq 4 x y yt, ty, pos, aft, gd⟩ a w K :=
  g_val (.bool r) w (by subst hr; simp only [execOp, hx, hy]; go_simp; cases p <;> cases q <;> rfl) hk
theorem g_len (x : Operand) (t e : TypeId) (ao : Option Addr) (n cap : Nat) (r : Int) (ht : Try.prog.underlying t = some (.slice e)) (hx : a.eval x = .slice ao n cap) (hr : (n : Int) = r) (hk : K (.int .i64 r) w) : gives Try.prog ⟨dst, .call { callee := .builtin .len, args := #[x], argTypes := #[t] }, ty, pos, aft, gd⟩ a w K :=
  g_val (.int .i64 r) w (by subst hr; simp only [execOp, resolve, invoke, builtin, List.map_toArray, List.map_cons, List.map_nil, hx]; go_simp) hk
theorem g_lenT (x : Operand) (s : ByteArray) (r : Int) (hx : a.eval x = .string s) (hr : ((s.size : Nat) : Int) = r) (hk : K (.int .i64 r) w) : gives Try.prog ⟨dst, .call { callee := .builtin .len, args := #[x], argTypes := #[9] }, ty, pos, aft, gd⟩ a w K :=
  g_val (.int .i64 r) w (by subst hr; simp only [execOp, resolve, invoke, builtin, List.map_toArray, List.map_cons, List.map_nil, hx]; go_simp) hk
theorem g_lenC0 (x : Operand) (hx : a.eval x = .chan none) (hk : K (.int .i64 0) w) : gives Try.prog ⟨dst, .call { callee := .builtin .len, args := #[x], argTypes := #[61] }, ty, pos, aft, gd⟩ a w K :=
  g_val (.int .i64 0) w (by simp [execOp, resolve, invoke, builtin, hx, Builtin.len_, run_underlying Try.underlying61, Result.andThen, goInt]) hk
theorem g_lenC {w0 : World} {R : List HP} {c cap : Nat} {vs : List Value} (x : Operand) (r : Int) (hx : a.eval x = .chan (some c)) (hM : Ms w0 w (ch c cap vs :: R)) (hr : ((vs.length : Nat) : Int) = r) (hk : K (.int .i64 r) w) : gives Try.prog ⟨dst, .call { callee := .builtin .len, args := #[x], argTypes := #[61] }, ty, pos, aft, gd⟩ a w K := by
  obtain ⟨s, q, hc⟩ := ch_get hM
  refine g_val (.int .i64 r) w ?_ hk
  subst hr
  simp [execOp, resolve, invoke, builtin, hx, Builtin.len_, run_underlying Try.underlying61, run_getObj_chan _ _ hc, Result.andThen, goInt]
theorem info9 : ∃ i, Try.prog.info? 9 = some i ∧ i.bytes = 16 := by
  have h : (Try.prog.info? 9).map (·.bytes) = some 16 := by kernel_rfl
  obtain ⟨i, hi, hb⟩ := Option.map_eq_some_iff.1 h
  exact ⟨i, hi, hb⟩
theorem ch_new {w0 w : World} {R : List HP} {cap : Nat} (h : Ms w0 w R) : Ms w0 (w.alloc (.chan cap #[] false 0 0 false)) (ch w.heap.size cap [] :: R) := by
  obtain ⟨F, h1, h2⟩ := h.mem
  have hb : Below w.heap.size w (w.alloc (.chan cap #[] false 0 0 false)) := (Below.refl _ _).alloc (Nat.le_refl _) _
  refine ⟨h.below.trans (hb.mono h.below.size), fun k => k = w.heap.size ∨ F k, ⟨fun k => k = w.heap.size, F, ⟨fun k => Iff.rfl, 0, 0, heap_alloc_new _ _⟩, h1.loc (fun k hk => hb.block k (h1.lt k hk)), fun k => Iff.rfl, ?_⟩, ?_⟩
  · rintro k rfl hk
    exact absurd (h1.lt _ hk) (by omega)
  · rintro k (rfl | hk)
    · exact h.below.size
    · exact h2 k hk
theorem g_mchan {w0 : World} {R : List HP} (x : Operand) (n : Nat) (hx : a.eval x = .int .i64 ((n : Nat) : Int)) (hn : n ≤ 1000) (h : Ms w0 w R) (hk : ∀ w', Ms w0 w' (ch w.heap.size n [] :: R) → K (.chan (some w.heap.size)) w') : gives Try.prog ⟨dst, .makeChan 61 x, ty, pos, aft, gd⟩ a w K := by
  obtain ⟨i, hi, hb⟩ := info9
  have hr := Go.Conc.run_makeChan (P := Try.prog) (w := w) Try.underlying61 hi .i64 n (by omega) (by rw [hb]; omega)
  exact g_val _ _ (by simp only [execOp, hx, Sem.run_bind, hr, Result.andThen_ok, Sem.run_pure]) (hk _ (ch_new h))
theorem run_ix (t e : TypeId) (size : Nat) (ht : Try.prog.underlying t = some (.slice e)) (hs : ∀ w, (sizeOf e).run Try.prog w = .ok size w) (w : World) (b o n cap j : Nat) (h : j < n) : (Instr.indexAt t (.slice (some ⟨b, o, none⟩) n cap) (.int .i64 j)).run Try.prog w = .ok (.pointer (some ⟨b, o + j * size, none⟩)) w := by
  have h1 : (j : Int) < (n : Int) := by omega
  simp [Instr.indexAt, asIntOf, run_underlying ht, hs, h1, Addr.add_mid]
  intro hc; omega
theorem g_ix (x y : Operand) (t e : TypeId) (size : Nat) (ht : Try.prog.underlying t = some (.slice e)) (hs : ∀ w, (sizeOf e).run Try.prog w = .ok size w) (b o n cap j o' : Nat) (i : Int) (hx : a.eval x = .slice (some ⟨b, o, none⟩) n cap) (hy : a.eval y = .int .i64 i) (hi : i = j) (h : j < n) (ho : o + j * size = o') (hk : K (.pointer (some ⟨b, o', none⟩)) w) : gives Try.prog ⟨dst, .indexAddr t x y, ty, pos, aft, gd⟩ a w K :=
  g_val _ w (by subst hi; subst ho; simp only [execOp, hx, hy, Sem.run_bind, run_ix t e size ht hs w b o n cap j h, Result.andThen_ok, Sem.run_pure]) hk
theorem szof64 : ∀ w, (sizeOf 64).run Try.prog w = .ok 2 w := by intro w; kernel_rfl
theorem szof3 : ∀ w, (sizeOf 3).run Try.prog w = .ok 1 w := by intro w; kernel_rfl
theorem szof9 : ∀ w, (sizeOf 9).run Try.prog w = .ok 1 w := by intro w; kernel_rfl
theorem szof4 : ∀ w, (sizeOf 4).run Try.prog w = .ok 1 w := by intro w; kernel_rfl
theorem szof5 : ∀ w, (sizeOf 5).run Try.prog w = .ok 1 w := by intro w; kernel_rfl
theorem szof32 : ∀ w, (sizeOf 32).run Try.prog w = .ok 3 w := by intro w; kernel_rfl
theorem run_bs0 (t e size : Nat) (ht : Try.prog.underlying t = some (.slice e)) (hs : ∀ w, (sizeOf e).run Try.prog w = .ok size w) (z : Value) (hz : ∀ w, (zeroValue e).run Try.prog w = .ok z w) (w : World) :
    (Instr.buildSlice t 0 #[]).run Try.prog w = .ok (.slice (some ⟨w.heap.size, 0, none⟩) 0 0) (w.alloc (.cells #[] e)) := by
  simp [Instr.buildSlice, run_underlying ht, hs, hz, Instr.fill, newRow, ar0]
theorem run_bs1 (t e : Nat) (ht : Try.prog.underlying t = some (.slice e)) (hs : ∀ w, (sizeOf e).run Try.prog w = .ok 1 w) (z : Value) (hz : ∀ w, (zeroValue e).run Try.prog w = .ok z w) (hzc : z.cells = #[z]) (w : World) (v : Value) (hc : v.cells = #[v]) :
    (Instr.buildSlice t 1 #[(0, v)]).run Try.prog w = .ok (.slice (some ⟨w.heap.size, 0, none⟩) 1 1) (w.alloc (.cells #[v] e)) := by
  simp [Instr.buildSlice, run_underlying ht, hs, hz, hzc, hc, Instr.fill, newRow, ar1]
theorem run_bs64 (w : World) (t : Thg) : (Instr.buildSlice 42 1 #[(0, .agg (tc t).toArray)]).run Try.prog w = .ok (.slice (some ⟨w.heap.size, 0, none⟩) 1 1) (w.alloc (.cells (tc t).toArray 64)) := by
  simp [Instr.buildSlice, run_underlying Try.underlying42, szof64, Try.zeroValue64, Instr.fill, newRow, tc, Value.cells, ar2]
end
theorem row_alloc {w0 w : World} {R : List HP} (h : Ms w0 w R) (e size n : Nat) (cs : List Value) (hl : cs.length = n * size) (hm : n ≤ maxLen) : Ms w0 (w.alloc (.cells cs.toArray e)) (row e size (.slice (some ⟨w.heap.size, 0, none⟩) n n) n cs :: R) := by
  obtain ⟨h1, h2⟩ := turn_alloc w cs e
  exact row_mk (h.new h1 h2) hl (Nat.le_refl _) hm (by omega) (by rw [← hl]; exact List.take_length)
section
variable {a : Act} {w0 w : World} {R : List HP} {dst : Option Tmp} {ty : TypeId} {pos : String} {aft : Array Edge} {gd : Option (Nat × Bool)} {K : Value → World → Prop}
theorem g_bs0 (t e size : Nat) (ht : Try.prog.underlying t = some (.slice e)) (hs : ∀ w, (sizeOf e).run Try.prog w = .ok size w) (z : Value) (hz : ∀ w, (zeroValue e).run Try.prog w = .ok z w) (h : Ms w0 w R) (hk : ∀ w', Ms w0 w' (row e size (.slice (some ⟨w.heap.size, 0, none⟩) 0 0) 0 [] :: R) → K (.slice (some ⟨w.heap.size, 0, none⟩) 0 0) w') : gives Try.prog ⟨dst, .buildSlice t 0 #[], ty, pos, aft, gd⟩ a w K :=
  g_val _ _ (by simp only [execOp, List.map_toArray, List.map_nil, Sem.run_bind, run_bs0 t e size ht hs z hz w, Result.andThen_ok, Sem.run_pure]) (hk _ (row_alloc h e size 0 [] (by simp) (by decide)))
theorem g_bs1 (t e : Nat) (ht : Try.prog.underlying t = some (.slice e)) (hs : ∀ w, (sizeOf e).run Try.prog w = .ok 1 w) (z : Value) (hz : ∀ w, (zeroValue e).run Try.prog w = .ok z w) (hzc : z.cells = #[z]) (x : Operand) (v : Value) (hx : a.eval x = v) (hc : v.cells = #[v]) (h : Ms w0 w R) (hk : ∀ w', Ms w0 w' (blk w.heap.size [v] e :: R) → K (.slice (some ⟨w.heap.size, 0, none⟩) 1 1) w') : gives Try.prog ⟨dst, .buildSlice t 1 #[(0, x)], ty, pos, aft, gd⟩ a w K := by
  obtain ⟨h1, h2⟩ := turn_alloc w [v] e
  exact g_val _ _ (by simp only [execOp, List.map_toArray, List.map_cons, List.map_nil, hx, Sem.run_bind, run_bs1 t e ht hs z hz hzc w v hc, Result.andThen_ok, Sem.run_pure]) (hk _ (h.new h1 h2))
theorem g_bs64 (x : Operand) (t : Thg) (hx : a.eval x = .agg (tc t).toArray) (h : Ms w0 w R) (hk : ∀ w', Ms w0 w' (blk w.heap.size (tc t) 64 :: R) → K (.slice (some ⟨w.heap.size, 0, none⟩) 1 1) w') : gives Try.prog ⟨dst, .buildSlice 42 1 #[(0, x)], ty, pos, aft, gd⟩ a w K := by
  obtain ⟨h1, h2⟩ := turn_alloc w (tc t) 64
  exact g_val _ _ (by simp only [execOp, List.map_toArray, List.map_cons, List.map_nil, hx, Sem.run_bind, run_bs64 w t, Result.andThen_ok, Sem.run_pure]) (hk _ (h.new h1 h2))
theorem inf9_some : (Try.prog.info? 9).map (fun i => (i.size, i.bytes, i.zero.map (fun z => z.cells.size))) = some (1, 16, some 1) := by kernel_rfl
theorem inf9 : ∃ i z, Try.prog.info? 9 = some i ∧ i.zero = some z ∧ i.size = 1 ∧ i.bytes = 16 ∧ z.cells.size = 1 := by
  have h := inf9_some
  cases hi : Try.prog.info? 9 with
  | none => rw [hi] at h; cases h
  | some i =>
    rw [hi] at h
    simp only [Option.map_some, Option.some.injEq, Prod.mk.injEq] at h
    obtain ⟨h1, h2, h3⟩ := h
    cases hz : i.zero with
    | none => rw [hz] at h3; cases h3
    | some z =>
      rw [hz] at h3
      simp only [Option.map_some, Option.some.injEq] at h3
      exact ⟨i, z, rfl, hz, h1, h2, h3⟩
theorem inf3_some : (Try.prog.info? 3).map (fun i => (i.size, i.bytes, i.zero.map (fun z => z.cells.size))) = some (1, 8, some 1) := by kernel_rfl
theorem inf3 : ∃ i z, Try.prog.info? 3 = some i ∧ i.zero = some z ∧ i.size = 1 ∧ i.bytes = 8 ∧ z.cells.size = 1 := by
  have h := inf3_some
  cases hi : Try.prog.info? 3 with
  | none => rw [hi] at h; cases h
  | some i =>
    rw [hi] at h
    simp only [Option.map_some, Option.some.injEq, Prod.mk.injEq] at h
    obtain ⟨h1, h2, h3⟩ := h
    cases hz : i.zero with
    | none => rw [hz] at h3; cases h3
    | some z =>
      rw [hz] at h3
      simp only [Option.map_some, Option.some.injEq] at h3
      exact ⟨i, z, rfl, hz, h1, h2, h3⟩
theorem inf64_some : (Try.prog.info? 64).map (fun i => (i.size, i.bytes, i.zero.map (fun z => z.cells.size))) = some (2, 24, some 2) := by kernel_rfl
theorem inf64 : ∃ i z, Try.prog.info? 64 = some i ∧ i.zero = some z ∧ i.size = 2 ∧ i.bytes = 24 ∧ z.cells.size = 2 := by
  have h := inf64_some
  cases hi : Try.prog.info? 64 with
  | none => rw [hi] at h; cases h
  | some i =>
    rw [hi] at h
    simp only [Option.map_some, Option.some.injEq, Prod.mk.injEq] at h
    obtain ⟨h1, h2, h3⟩ := h
    cases hz : i.zero with
    | none => rw [hz] at h3; cases h3
    | some z =>
      rw [hz] at h3
      simp only [Option.map_some, Option.some.injEq] at h3
      exact ⟨i, z, rfl, hz, h1, h2, h3⟩
/-- append(row, one) -/
theorem g_apS (x y : Operand) (v : Value) (n : Nat) (xs : List Value) (b c : Nat) (news : List Value) (bt : TypeId) (hx : a.eval x = v) (hy : a.eval y = .slice (some ⟨b, 0, none⟩) 1 c) (h : Ms w0 w (row 9 1 v n xs :: blk b news bt :: R)) (hl : news.length = 1) (h1 : ∀ u ∈ news, u.oneCell' = true)
    (hmx : n + 1 ≤ 100000) (hk : ∀ v' w', Ms w0 w' (row 9 1 v' (n + 1) (xs ++ news) :: blk b news bt :: R) → K v' w') :
    gives Try.prog ⟨dst, .call { callee := .builtin .append, args := #[x, y], argTypes := #[36, 36] }, ty, pos, aft, gd⟩ a w K := by
  obtain ⟨i, z, h2, h3, h4, h5, h6⟩ := inf9
  exact g_apR x y 36 9 1 i z _ Try.underlying36 h2 h3 h4 h5 h6 v n xs b c news bt hx hy h hl h1 (by omega) hmx hk
/-- append(row, one) -/
theorem g_apZ (x y : Operand) (v : Value) (n : Nat) (xs : List Value) (b c : Nat) (news : List Value) (bt : TypeId) (hx : a.eval x = v) (hy : a.eval y = .slice (some ⟨b, 0, none⟩) 1 c) (h : Ms w0 w (row 3 1 v n xs :: blk b news bt :: R)) (hl : news.length = 1) (h1 : ∀ u ∈ news, u.oneCell' = true)
    (hmx : n + 1 ≤ 100000) (hk : ∀ v' w', Ms w0 w' (row 3 1 v' (n + 1) (xs ++ news) :: blk b news bt :: R) → K v' w') :
    gives Try.prog ⟨dst, .call { callee := .builtin .append, args := #[x, y], argTypes := #[39, 39] }, ty, pos, aft, gd⟩ a w K := by
  obtain ⟨i, z, h2, h3, h4, h5, h6⟩ := inf3
  exact g_apR x y 39 3 1 i z _ Try.underlying39 h2 h3 h4 h5 h6 v n xs b c news bt hx hy h hl h1 (by omega) hmx hk
/-- append(row, one) -/
theorem g_apT (x y : Operand) (v : Value) (n : Nat) (xs : List Value) (b c : Nat) (news : List Value) (bt : TypeId) (hx : a.eval x = v) (hy : a.eval y = .slice (some ⟨b, 0, none⟩) 1 c) (h : Ms w0 w (row 64 2 v n xs :: blk b news bt :: R)) (hl : news.length = 2) (h1 : ∀ u ∈ news, u.oneCell' = true)
    (hmx : n + 1 ≤ 100000) (hk : ∀ v' w', Ms w0 w' (row 64 2 v' (n + 1) (xs ++ news) :: blk b news bt :: R) → K v' w') :
    gives Try.prog ⟨dst, .call { callee := .builtin .append, args := #[x, y], argTypes := #[42, 42] }, ty, pos, aft, gd⟩ a w K := by
  obtain ⟨i, z, h2, h3, h4, h5, h6⟩ := inf64
  exact g_apR x y 42 64 2 i z _ Try.underlying42 h2 h3 h4 h5 h6 v n xs b c news bt hx hy h hl h1 (by omega) hmx hk
theorem kf10 (vs : Array Value) (w : World) : (callFunc 10 vs).run Try.prog w = .ok (.enter 10 vs) w := by go_simp
theorem kf11 (vs : Array Value) (w : World) : (callFunc 11 vs).run Try.prog w = .ok (.enter 11 vs) w := by go_simp
theorem kf12 (vs : Array Value) (w : World) : (callFunc 12 vs).run Try.prog w = .ok (.enter 12 vs) w := by go_simp
theorem kf13 (vs : Array Value) (w : World) : (callFunc 13 vs).run Try.prog w = .ok (.enter 13 vs) w := by go_simp
theorem kf14 (vs : Array Value) (w : World) : (callFunc 14 vs).run Try.prog w = .ok (.enter 14 vs) w := by go_simp
theorem kf15 (vs : Array Value) (w : World) : (callFunc 15 vs).run Try.prog w = .ok (.enter 15 vs) w := by go_simp
theorem kf16 (vs : Array Value) (w : World) : (callFunc 16 vs).run Try.prog w = .ok (.enter 16 vs) w := by go_simp
theorem kf17 (vs : Array Value) (w : World) : (callFunc 17 vs).run Try.prog w = .ok (.enter 17 vs) w := by go_simp
theorem kf18 (vs : Array Value) (w : World) : (callFunc 18 vs).run Try.prog w = .ok (.enter 18 vs) w := by go_simp
theorem kf19 (vs : Array Value) (w : World) : (callFunc 19 vs).run Try.prog w = .ok (.enter 19 vs) w := by go_simp
theorem kf20 (vs : Array Value) (w : World) : (callFunc 20 vs).run Try.prog w = .ok (.enter 20 vs) w := by go_simp
theorem kf21 (vs : Array Value) (w : World) : (callFunc 21 vs).run Try.prog w = .ok (.enter 21 vs) w := by go_simp
theorem kf22 (vs : Array Value) (w : World) : (callFunc 22 vs).run Try.prog w = .ok (.enter 22 vs) w := by go_simp
theorem kf23 (vs : Array Value) (w : World) : (callFunc 23 vs).run Try.prog w = .ok (.enter 23 vs) w := by go_simp
theorem kf24 (vs : Array Value) (w : World) : (callFunc 24 vs).run Try.prog w = .ok (.enter 24 vs) w := by go_simp
theorem kf25 (vs : Array Value) (w : World) : (callFunc 25 vs).run Try.prog w = .ok (.enter 25 vs) w := by go_simp
theorem kf26 (vs : Array Value) (w : World) : (callFunc 26 vs).run Try.prog w = .ok (.enter 26 vs) w := by go_simp
theorem kf27 (vs : Array Value) (w : World) : (callFunc 27 vs).run Try.prog w = .ok (.enter 27 vs) w := by go_simp
theorem kf28 (vs : Array Value) (w : World) : (callFunc 28 vs).run Try.prog w = .ok (.enter 28 vs) w := by go_simp
theorem kf29 (vs : Array Value) (w : World) : (callFunc 29 vs).run Try.prog w = .ok (.enter 29 vs) w := by go_simp
theorem kf30 (vs : Array Value) (w : World) : (callFunc 30 vs).run Try.prog w = .ok (.enter 30 vs) w := by go_simp
theorem kf31 (vs : Array Value) (w : World) : (callFunc 31 vs).run Try.prog w = .ok (.enter 31 vs) w := by go_simp
theorem kf32 (vs : Array Value) (w : World) : (callFunc 32 vs).run Try.prog w = .ok (.enter 32 vs) w := by go_simp
end
end Go.Proofs.Ytpkjocibgmjhdaa
