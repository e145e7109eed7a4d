/- A head (13 cells) and an extension (two) in a walk, and what single operations yield: numbers, bools, texts, cells. -/
import Derived.Test.YteieacamokoejaaGives
import Derived.Test.YteieacamokoejaaHMath
import Derived.Test.YteieacamokoejaaOct1
import Derived.Test.YteieacamokoejaaOct2
import Derived.Test.YteieacamokoejaaOct4
import Derived.Laws.StructEq
namespace Go.Proofs.Yteieacamokoejaa
open Go Go.RowKit
set_option linter.unusedVariables false
/-- A head as the program's structure. -/
def hc (h : Hd) : List Value := [.int .i64 h.le, .int .i64 h.ve, .int .i64 h.mo, .int .i64 h.st, .int .i64 h.po, .int .i64 h.pr, .int .u32 h.de, .int .u32 h.di, .int .u32 h.ident, .int .u64 h.re, .int .u64 h.og, .int .u64 h.rc, .int .u64 h.tr]
/-- An extension as the program's structure. -/
def fc (f : Int × ByteArray) : List Value := [.int .i64 f.1, .string f.2]
def fz : Int × ByteArray := (0, ByteArray.empty)
theorem one_hc (h : Hd) : ∀ v ∈ hc h, v.oneCell' = true := by
  intro v hv
  simp only [hc, List.mem_cons, List.not_mem_nil, or_false] at hv
  rcases hv with rfl | rfl | rfl | rfl | rfl | rfl | rfl | rfl | rfl | rfl | rfl | rfl | rfl <;> rfl
theorem one_fc (f : Int × ByteArray) : ∀ v ∈ fc f, v.oneCell' = true := by
  intro v hv
  simp only [fc, List.mem_cons, List.not_mem_nil, or_false] at hv
  rcases hv with rfl | rfl <;> rfl
theorem szH (h : Hd) : (Try.prog.info? 26).map (·.size) = some (hc h).length := by
  have h : (Try.prog.info? 26).map (·.size) = some 13 := by kernel_rfl
  exact h
theorem zeroH : ∀ w, (zeroValue 26).run Try.prog w = .ok (.agg (hc hz).toArray) w := by
  intro w; kernel_rfl
theorem szF (f : Int × ByteArray) : (Try.prog.info? 48).map (·.size) = some (fc f).length := by
  have h : (Try.prog.info? 48).map (·.size) = some 2 := by kernel_rfl
  exact h
theorem zeroF : ∀ w, (zeroValue 48).run Try.prog w = .ok (.agg (fc fz).toArray) w := by
  intro w; kernel_rfl
theorem fieldsH : Try.prog.underlying 26 = some (.struct (Try.prog.fieldsOf 26)) := by kernel_rfl
theorem heldH : Try.prog.stoodInHeld 26 = false := by kernel_rfl
theorem fieldsF : Try.prog.underlying 48 = some (.struct (Try.prog.fieldsOf 48)) := by kernel_rfl
theorem heldF : Try.prog.stoodInHeld 48 = false := by kernel_rfl
theorem flH : (Try.prog.fieldsOf 26).toList = [{ name := "Leap", type := 3, offset := 0, embedded := false, tag := "", pkgPath := "", byteOffset := 0 }, { name := "Version", type := 3, offset := 1, embedded := false, tag := "", pkgPath := "", byteOffset := 8 }, { name := "Mode", type := 3, offset := 2, embedded := false, tag := "", pkgPath := "", byteOffset := 16 }, { name := "Stratum", type := 3, offset := 3, embedded := false, tag := "", pkgPath := "", byteOffset := 24 }, { name := "Poll", type := 3, offset := 4, embedded := false, tag := "", pkgPath := "", byteOffset := 32 }, { name := "Precision", type := 3, offset := 5, embedded := false, tag := "", pkgPath := "", byteOffset := 40 }, { name := "Delay", type := 22, offset := 6, embedded := false, tag := "", pkgPath := "", byteOffset := 48 }, { name := "Dispersion", type := 22, offset := 7, embedded := false, tag := "", pkgPath := "", byteOffset := 52 }, { name := "Id", type := 22, offset := 8, embedded := false, tag := "", pkgPath := "", byteOffset := 56 }, { name := "Reference", type := 24, offset := 9, embedded := false, tag := "", pkgPath := "", byteOffset := 64 }, { name := "Origin", type := 24, offset := 10, embedded := false, tag := "", pkgPath := "", byteOffset := 72 }, { name := "Receive", type := 24, offset := 11, embedded := false, tag := "", pkgPath := "", byteOffset := 80 }, { name := "Transmit", type := 24, offset := 12, embedded := false, tag := "", pkgPath := "", byteOffset := 88 }] := by kernel_rfl
theorem flF : (Try.prog.fieldsOf 48).toList = [{ name := "Kind", type := 3, offset := 0, embedded := false, tag := "", pkgPath := "", byteOffset := 0 }, { name := "Data", type := 9, offset := 1, embedded := false, tag := "", pkgPath := "", byteOffset := 8 }] := by kernel_rfl
theorem equalF (f : Int × ByteArray) (w : World) : (Op.equalIn 10000 48 (.agg (fc f).toArray) (.agg (fc f).toArray)).run Try.prog w = .ok true w := by
  rw [run_equalIn_agg w 9999 48 _ _ fieldsF heldF, flF]
  have p0 : (part 3 (fc f).toArray 0).run Try.prog w = .ok (.int .i64 f.1) w := by simp [part, fc]
  have p1 : (part 9 (fc f).toArray 1).run Try.prog w = .ok (.string f.2) w := by simp [part, fc]
  simp only [Op.eqFields, ne_eq, not_false_eq_true, if_true, Sem.run_bind, p0, p1, Result.andThen_ok, run_equalIn_int w 9998 3 .i64 .i64 _ _ Try.underlying3, run_equalIn_string w 9998 9 _ _ Try.underlying9, String.reduceEq, Sem.run_ite, Sem.run_pure, beq_self_eq_true, Bool.not_true, Bool.false_eq_true, if_false]
theorem equalH (h : Hd) (w : World) : (Op.equalIn 10000 26 (.agg (hc h).toArray) (.agg (hc h).toArray)).run Try.prog w = .ok true w := by
  rw [run_equalIn_agg w 9999 26 _ _ fieldsH heldH, flH]
  have p0 : (part 3 (hc h).toArray 0).run Try.prog w = .ok (.int .i64 h.le) w := by simp [part, hc]
  have p1 : (part 3 (hc h).toArray 1).run Try.prog w = .ok (.int .i64 h.ve) w := by simp [part, hc]
  have p2 : (part 3 (hc h).toArray 2).run Try.prog w = .ok (.int .i64 h.mo) w := by simp [part, hc]
  have p3 : (part 3 (hc h).toArray 3).run Try.prog w = .ok (.int .i64 h.st) w := by simp [part, hc]
  have p4 : (part 3 (hc h).toArray 4).run Try.prog w = .ok (.int .i64 h.po) w := by simp [part, hc]
  have p5 : (part 3 (hc h).toArray 5).run Try.prog w = .ok (.int .i64 h.pr) w := by simp [part, hc]
  have p6 : (part 22 (hc h).toArray 6).run Try.prog w = .ok (.int .u32 h.de) w := by simp [part, hc]
  have p7 : (part 22 (hc h).toArray 7).run Try.prog w = .ok (.int .u32 h.di) w := by simp [part, hc]
  have p8 : (part 22 (hc h).toArray 8).run Try.prog w = .ok (.int .u32 h.ident) w := by simp [part, hc]
  have p9 : (part 24 (hc h).toArray 9).run Try.prog w = .ok (.int .u64 h.re) w := by simp [part, hc]
  have p10 : (part 24 (hc h).toArray 10).run Try.prog w = .ok (.int .u64 h.og) w := by simp [part, hc]
  have p11 : (part 24 (hc h).toArray 11).run Try.prog w = .ok (.int .u64 h.rc) w := by simp [part, hc]
  have p12 : (part 24 (hc h).toArray 12).run Try.prog w = .ok (.int .u64 h.tr) w := by simp [part, hc]
  simp only [Op.eqFields, ne_eq, not_false_eq_true, if_true, Sem.run_bind, p0, p1, p2, p3, p4, p5, p6, p7, p8, p9, p10, p11, p12, Result.andThen_ok, run_equalIn_int w 9998 3 .i64 .i64 _ _ Try.underlying3, run_equalIn_int w 9998 22 .u32 .u32 _ _ Try.underlying22, run_equalIn_int w 9998 24 .u64 .u64 _ _ Try.underlying24, String.reduceEq, Sem.run_ite, Sem.run_pure, beq_self_eq_true, Bool.not_true, Bool.false_eq_true, if_false]
theorem toList_beq (p q : ByteArray) : (p.toList == q.toList) = decide (p = q) := by
  by_cases h : p = q
  · subst h; simp
  · rw [decide_eq_false h]
    simp only [beq_eq_false_iff_ne, ne_eq]
    intro e
    apply h
    rw [Lib.toList_data, Lib.toList_data] at e
    apply ByteArray.ext
    exact Array.toList_inj.1 e
theorem eqlH (h : Hd) (w : World) : (binOp .eql 26 (.agg (hc h).toArray) (.agg (hc h).toArray)).run Try.prog w = .ok (.bool true) w := by
  rw [run_eql_struct, equalH]; rfl
theorem neqH (h : Hd) (w : World) : (binOp .neq 26 (.agg (hc h).toArray) (.agg (hc h).toArray)).run Try.prog w = .ok (.bool false) w := by
  rw [run_neq_struct, equalH]; rfl
theorem neqF (f : Int × ByteArray) (w : World) : (binOp .neq 48 (.agg (fc f).toArray) (.agg (fc f).toArray)).run Try.prog w = .ok (.bool false) w := by
  rw [run_neq_struct, equalF]; rfl
section
variable {P : Program} {ops : Array Oper} {rest : List Oper} {a : Act} {w : World} {Q : Exit → Act → World → Prop} {dst : Option Tmp} {ty yt : TypeId} {pos : String} {aft : Array Edge} {gd : Option (Nat × Bool)} {K : Value → World → Prop}
theorem g_extract (x : Operand) (vs : Array Value) (i : Nat) (v : Value) (hx : a.eval x = .tuple vs) (hv : vs[i]? = some v) (hk : K v w) : gives P ⟨dst, .extract x i, ty, pos, aft, gd⟩ a w K :=
  g_val v w (by simp [execOp, hx, hv, Instr.extract]) hk
theorem g_pickt (c x y : Operand) (v : Value) (hc : a.eval c = .bool true) (hx : a.eval x = v) (hk : K v w) : gives P ⟨dst, .pick c x y, ty, pos, aft, gd⟩ a w K :=
  g_val v w (by simp [execOp, hc, hx, asBool]) hk
theorem g_pickf (c x y : Operand) (v : Value) (hc : a.eval c = .bool false) (hy : a.eval y = v) (hk : K v w) : gives P ⟨dst, .pick c x y, ty, pos, aft, gd⟩ a w K :=
  g_val v w (by simp [execOp, hc, hy, asBool]) hk
theorem g_igeq (t : TypeId) (x y : Operand) (k : IntKind) (p q : Int) (b : Bool) (hx : a.eval x = .int k p) (hy : a.eval y = .int k q) (hb : decide (q ≤ p) = b) (hk : K (.bool b) w) : gives P ⟨dst, .binOp .geq t x y yt, ty, pos, aft, gd⟩ a w K :=
  g_val (.bool b) w (by subst hb; simp [execOp, hx, hy, eqGuard, binOp, Op.intCmp]) hk
theorem g_ileq (t : TypeId) (x y : Operand) (k : IntKind) (p q : Int) (b : Bool) (hx : a.eval x = .int k p) (hy : a.eval y = .int k q) (hb : decide (p ≤ q) = b) (hk : K (.bool b) w) : gives P ⟨dst, .binOp .leq t x y yt, ty, pos, aft, gd⟩ a w K :=
  g_val (.bool b) w (by subst hb; simp [execOp, hx, hy, eqGuard, binOp, Op.intCmp]) hk
theorem g_igtr (t : TypeId) (x y : Operand) (k : IntKind) (p q : Int) (b : Bool) (hx : a.eval x = .int k p) (hy : a.eval y = .int k q) (hb : decide (q < p) = b) (hk : K (.bool b) w) : gives P ⟨dst, .binOp .gtr t x y yt, ty, pos, aft, gd⟩ a w K :=
  g_val (.bool b) w (by subst hb; simp [execOp, hx, hy, eqGuard, binOp, Op.intCmp]) hk
theorem g_ilss (t : TypeId) (x y : Operand) (k : IntKind) (p q : Int) (b : Bool) (hx : a.eval x = .int k p) (hy : a.eval y = .int k q) (hb : decide (p < q) = b) (hk : K (.bool b) w) : gives P ⟨dst, .binOp .lss t x y yt, ty, pos, aft, gd⟩ a w K :=
  g_val (.bool b) w (by subst hb; simp [execOp, hx, hy, eqGuard, binOp, Op.intCmp]) hk
theorem g_ieq (t : TypeId) (x y : Operand) (k : IntKind) (p q : Int) (b : Bool) (hx : a.eval x = .int k p) (hy : a.eval y = .int k q) (hb : decide (p = q) = b) (hk : K (.bool b) w) : gives P ⟨dst, .binOp .eql t x y yt, ty, pos, aft, gd⟩ a w K :=
  g_val (.bool b) w (by subst hb; simp [execOp, hx, hy, eqGuard, binOp, Op.intCmp]; rfl) hk
theorem g_ine (t : TypeId) (x y : Operand) (k : IntKind) (p q : Int) (b : Bool) (hx : a.eval x = .int k p) (hy : a.eval y = .int k q) (hb : decide (p ≠ q) = b) (hk : K (.bool b) w) : gives P ⟨dst, .binOp .neq t x y yt, ty, pos, aft, gd⟩ a w K :=
  g_val (.bool b) w (by subst hb; simp [execOp, hx, hy, eqGuard, binOp, Op.intCmp]; rfl) hk
theorem g_iadd (t : TypeId) (x y : Operand) (k : IntKind) (p q r : Int) (hx : a.eval x = .int k p) (hy : a.eval y = .int k q) (hr : k.wrap (p + q) = r) (hk : K (.int k r) w) : gives P ⟨dst, .binOp .add t x y yt, ty, pos, aft, gd⟩ a w K :=
  g_val (.int k r) w (by simp [execOp, hx, hy, eqGuard, binOp, Op.intArith, hr]) hk
theorem g_isub (t : TypeId) (x y : Operand) (k : IntKind) (p q r : Int) (hx : a.eval x = .int k p) (hy : a.eval y = .int k q) (hr : k.wrap (p - q) = r) (hk : K (.int k r) w) : gives P ⟨dst, .binOp .sub t x y yt, ty, pos, aft, gd⟩ a w K :=
  g_val (.int k r) w (by simp [execOp, hx, hy, eqGuard, binOp, Op.intArith, hr]) hk
theorem g_imul (t : TypeId) (x y : Operand) (k : IntKind) (p q r : Int) (hx : a.eval x = .int k p) (hy : a.eval y = .int k q) (hr : k.wrap (p * q) = r) (hk : K (.int k r) w) : gives P ⟨dst, .binOp .mul t x y yt, ty, pos, aft, gd⟩ a w K :=
  g_val (.int k r) w (by simp [execOp, hx, hy, eqGuard, binOp, Op.intArith, hr]) hk
theorem g_irem (t : TypeId) (x y : Operand) (k : IntKind) (p q r : Int) (hx : a.eval x = .int k p) (hy : a.eval y = .int k q) (hq : q ≠ 0) (hr : p.tmod q = r) (hk : K (.int k r) w) : gives P ⟨dst, .binOp .rem t x y yt, ty, pos, aft, gd⟩ a w K :=
  g_val (.int k r) w (by simp [execOp, hx, hy, eqGuard, binOp, Op.intDiv, hr, hq]) hk
theorem g_unot (t : TypeId) (x : Operand) (b : Bool) (hx : a.eval x = .bool b) (hk : K (.bool (!b)) w) : gives P ⟨dst, .unOp .not t x, ty, pos, aft, gd⟩ a w K :=
  g_val (.bool (!b)) w (by simp [execOp, hx, Op.unary]) hk
theorem g_beql (x y : Operand) (p q : Bool) (hx : a.eval x = .bool p) (hy : a.eval y = .bool q) (hk : K (.bool (p == q)) w) : gives Try.prog ⟨dst, .binOp .eql 4 x y yt, ty, pos, aft, gd⟩ a w K := by
  have h := run_equalIn_bool w 9999 4 p q Try.underlying4
  exact g_val (.bool (p == q)) w (by simp [execOp, hx, hy, eqGuard, binOp, Op.equal, Op.maxDepth, h]) hk
theorem g_eqlH (x y : Operand) (h : Hd) (hx : a.eval x = .agg (hc h).toArray) (hy : a.eval y = .agg (hc h).toArray) (hk : K (.bool true) w) : gives Try.prog ⟨dst, .binOp .eql 26 x y yt, ty, pos, aft, gd⟩ a w K :=
  g_val (.bool true) w (by simp [execOp, hx, hy, eqGuard, eqlH]) hk
theorem g_neqH (x y : Operand) (h : Hd) (hx : a.eval x = .agg (hc h).toArray) (hy : a.eval y = .agg (hc h).toArray) (hk : K (.bool false) w) : gives Try.prog ⟨dst, .binOp .neq 26 x y yt, ty, pos, aft, gd⟩ a w K :=
  g_val (.bool false) w (by simp [execOp, hx, hy, eqGuard, neqH]) hk
theorem g_neqF (x y : Operand) (f : Int × ByteArray) (hx : a.eval x = .agg (fc f).toArray) (hy : a.eval y = .agg (fc f).toArray) (hk : K (.bool false) w) : gives Try.prog ⟨dst, .binOp .neq 48 x y yt, ty, pos, aft, gd⟩ a w K :=
  g_val (.bool false) w (by simp [execOp, hx, hy, eqGuard, neqF]) hk
theorem g_bldH0 (hk : K (.agg (hc hz).toArray) w) : gives Try.prog ⟨dst, .build 26 #[], ty, pos, aft, gd⟩ a w K :=
  g_val (.agg (hc hz).toArray) w (by simp only [execOp]; go_simp; rfl) hk
theorem g_bldF0 (hk : K (.agg (fc fz).toArray) w) : gives Try.prog ⟨dst, .build 48 #[], ty, pos, aft, gd⟩ a w K :=
  g_val (.agg (fc fz).toArray) w (by simp only [execOp]; go_simp; rfl) hk
theorem g_bldF (x y : Operand) (f : Int × ByteArray) (hx : a.eval x = .int .i64 f.1) (hy : a.eval y = .string f.2) (hk : K (.agg (fc f).toArray) w) : gives Try.prog ⟨dst, .build 48 #[(0, x), (1, y)], ty, pos, aft, gd⟩ a w K :=
  g_val (.agg (fc f).toArray) w (by simp only [execOp, hx, hy, List.map_toArray, List.map_cons, List.map_nil]; go_simp; rfl) hk
theorem g_seql (t : TypeId) (x y : Operand) (p q : ByteArray) (b : Bool) (hx : a.eval x = .string p) (hy : a.eval y = .string q) (hb : decide (p = q) = b) (hk : K (.bool b) w) : gives P ⟨dst, .binOp .eql t x y yt, ty, pos, aft, gd⟩ a w K :=
  g_val (.bool b) w (by subst hb; simp [execOp, hx, hy, eqGuard, binOp, Op.stringOp, toList_beq]) hk
theorem g_sneq (t : TypeId) (x y : Operand) (p q : ByteArray) (b : Bool) (hx : a.eval x = .string p) (hy : a.eval y = .string q) (hb : decide (p = q) = b) (hk : K (.bool (!b)) w) : gives P ⟨dst, .binOp .neq t x y yt, ty, pos, aft, gd⟩ a w K :=
  g_val (.bool (!b)) w (by subst hb; simp [execOp, hx, hy, eqGuard, binOp, Op.stringOp, toList_beq]) hk
theorem g_sadd (t : TypeId) (x y : Operand) (p q r : ByteArray) (hx : a.eval x = .string p) (hy : a.eval y = .string q) (hr : p ++ q = r) (hs : p.size + q.size ≤ 9223372036854775807) (hk : K (.string r) w) : gives P ⟨dst, .binOp .add t x y yt, ty, pos, aft, gd⟩ a w K :=
  g_val (.string r) w (by simp [execOp, hx, hy, eqGuard, binOp, Op.stringOp, hr]; omega) hk
theorem g_slen (x : Operand) (s : ByteArray) (n : Int) (hx : a.eval x = .string s) (hn : (s.size : Int) = n) (hk : K (.int .i64 n) w) : gives Try.prog ⟨dst, .call { callee := .builtin .len, args := #[x], argTypes := #[9] }, ty, pos, aft, gd⟩ a w K :=
  g_val (.int .i64 n) w (by simp only [execOp, resolve, invoke, builtin, List.map_toArray, List.map_cons, List.map_nil, hx]; go_simp; try (rw [hn])) hk
theorem g_sidx (x y : Operand) (s : ByteArray) (k : Nat) (i : Int) (c : UInt8) (hx : a.eval x = .string s) (hy : a.eval y = .int .i64 i) (hi : i = k) (hc : s.data.toList[k]? = some c) (hk : K (.int .u8 c.toNat) w) : gives Try.prog ⟨dst, .index 9 x y, ty, pos, aft, gd⟩ a w K := by
  subst hi
  obtain ⟨h1, h2⟩ := List.getElem?_eq_some_iff.1 hc
  have h3 : k < s.size := by simpa using h1
  have h4 : s[k] = c := by rw [← h2]; rfl
  exact g_val _ w (by simp only [execOp, hx, hy]; go_simp; try simp [h3, h4]) hk
theorem g_slh (x p q : Operand) (s r : ByteArray) (l h : Nat) (hx : a.eval x = .string s) (hl : a.eval p = .int .i64 l) (hh : a.eval q = .int .i64 h) (hlh : l ≤ h) (hs : h ≤ s.size) (hr : s.extract l h = r) (hk : K (.string r) w) : gives Try.prog ⟨dst, .slice 9 x (some p) (some q) none, ty, pos, aft, gd⟩ a w K := by
  subst hr
  exact g_val _ w (by simp only [execOp, hx, Option.map_some, Option.map_none, hl, hh]; go_simp) hk
theorem g_sl_h (x q : Operand) (s r : ByteArray) (h : Nat) (hx : a.eval x = .string s) (hh : a.eval q = .int .i64 h) (hs : h ≤ s.size) (hr : s.extract 0 h = r) (hk : K (.string r) w) : gives Try.prog ⟨dst, .slice 9 x none (some q) none, ty, pos, aft, gd⟩ a w K := by
  subst hr
  exact g_val _ w (by simp only [execOp, hx, Option.map_some, Option.map_none, hh]; go_simp) hk
theorem g_sl_l (x p : Operand) (s r : ByteArray) (l : Nat) (hx : a.eval x = .string s) (hl : a.eval p = .int .i64 l) (hs : l ≤ s.size) (hr : s.extract l s.size = r) (hk : K (.string r) w) : gives Try.prog ⟨dst, .slice 9 x (some p) none none, ty, pos, aft, gd⟩ a w K := by
  subst hr
  exact g_val _ w (by simp only [execOp, hx, Option.map_some, Option.map_none, hl]; go_simp) hk
/-- One operation that its guard wants, in a statement of fixed order. -/
theorem L_give {o : Oper} (hw : Region.wanted o (yielded ops a.tmps) = true) (h : gives P o a w (fun v w' => wpList P ops Q rest (a.put o.dst v) w')) : wpList P ops Q (o :: rest) a w := by
  unfold wpList; rw [if_pos hw]; exact .inl (wp_of_gives rfl h (fun _ _ h => h))
theorem at_op {o : Op} (d : Tmp) (h : wpList P ops Q (⟨some d, o, ty, pos, aft, gd⟩ :: rest) a w) : wpList P ops Q (⟨some d, o, ty, pos, aft, gd⟩ :: rest) a w := h
theorem at_binD {x y : Operand} {b : BinOp} {t yt : TypeId} (d : Tmp) (h : wpList P ops Q (⟨some d, .binOp b t x y yt, ty, pos, aft, gd⟩ :: rest) a w) : wpList P ops Q (⟨some d, .binOp b t x y yt, ty, pos, aft, gd⟩ :: rest) a w := h
theorem at_bld {t : TypeId} {ps : Array (Nat × Operand)} (d : Tmp) (h : wpList P ops Q (⟨some d, .build t ps, ty, pos, aft, gd⟩ :: rest) a w) : wpList P ops Q (⟨some d, .build t ps, ty, pos, aft, gd⟩ :: rest) a w := h
theorem at_boxD {x : Operand} (d : Tmp) (t : TypeId) (h : wpList P ops Q (⟨some d, .box t x, ty, pos, aft, none⟩ :: rest) a w) : wpList P ops Q (⟨some d, .box t x, ty, pos, aft, none⟩ :: rest) a w := h
theorem at_allocD (d : Tmp) (t : TypeId) (h : wpList P ops Q (⟨some d, .alloc t, ty, pos, aft, none⟩ :: rest) a w) : wpList P ops Q (⟨some d, .alloc t, ty, pos, aft, none⟩ :: rest) a w := h
theorem at_loadD {x : Operand} (d : Tmp) (t : TypeId) (h : wpList P ops Q (⟨some d, .load t x, ty, pos, aft, gd⟩ :: rest) a w) : wpList P ops Q (⟨some d, .load t x, ty, pos, aft, gd⟩ :: rest) a w := h
theorem at_storeX {y : Operand} {dst : Option Tmp} (x : Tmp) (t : TypeId) (h : wpList P ops Q (⟨dst, .store t (.tmp x) y, ty, pos, aft, none⟩ :: rest) a w) : wpList P ops Q (⟨dst, .store t (.tmp x) y, ty, pos, aft, none⟩ :: rest) a w := h
theorem at_cnv {t t' : TypeId} {x : Operand} (d : Tmp) (h : wpList P ops Q (⟨some d, .convert t t' x, ty, pos, aft, gd⟩ :: rest) a w) : wpList P ops Q (⟨some d, .convert t t' x, ty, pos, aft, gd⟩ :: rest) a w := h
theorem at_callD {c : Call} (d : Tmp) (h : wpList P ops Q (⟨some d, .call c, ty, pos, aft, gd⟩ :: rest) a w) : wpList P ops Q (⟨some d, .call c, ty, pos, aft, gd⟩ :: rest) a w := h
theorem at_sliceD {t : TypeId} {x : Operand} {l h m : Option Operand} (d : Tmp) (k : wpList P ops Q (⟨some d, .slice t x l h m, ty, pos, aft, gd⟩ :: rest) a w) : wpList P ops Q (⟨some d, .slice t x l h m, ty, pos, aft, gd⟩ :: rest) a w := k
theorem at_unD {x : Operand} {b : UnOp} {t : TypeId} (d : Tmp) (h : wpList P ops Q (⟨some d, .unOp b t x, ty, pos, aft, gd⟩ :: rest) a w) : wpList P ops Q (⟨some d, .unOp b t x, ty, pos, aft, gd⟩ :: rest) a w := h
theorem gn {o : Oper} (hw : Region.wanted o (yielded ops a.tmps) = false) (h : K undef w) : givesW P ops o a w K := by
  unfold givesW; rw [if_neg (by rw [hw]; decide)]; exact h
theorem gw {o : Oper} (hw : Region.wanted o (yielded ops a.tmps) = true) (h : gives P o a w K) : givesW P ops o a w K := by
  unfold givesW; rw [if_pos hw]; exact h
theorem mono_val {f : FuncId} {args : Array Value} {W w : World} {v : Value} (hw : Below W.heap.size W w) (h : Calls P f args w fun e w' => e = .returned v ∧ Below w.heap.size w w') :
    Calls P f args w fun e w' => ∃ x, e = .returned x ∧ x = v ∧ Below W.heap.size W w' :=
  h.mono fun _ _ ⟨h1, h2⟩ => ⟨v, h1, rfl, hw.trans (h2.mono hw.size)⟩
theorem mono_same {f : FuncId} {args : Array Value} {W w : World} {v : Value} (hw : Below W.heap.size W w) (h : Calls P f args w fun e w' => e = .returned v ∧ w' = w) :
    Calls P f args w fun e w' => ∃ x, e = .returned x ∧ x = v ∧ Below W.heap.size W w' :=
  h.mono fun _ _ ⟨h1, h2⟩ => ⟨v, h1, rfl, by rw [h2]; exact hw⟩
theorem same_below {f : FuncId} {args : Array Value} {w : World} {v : Value} (h : Calls P f args w fun e w' => e = .returned v ∧ w' = w) : Calls P f args w fun e w' => e = .returned v ∧ Below w.heap.size w w' :=
  h.mono fun _ _ ⟨h1, h2⟩ => ⟨h1, by rw [h2]; exact Below.refl _ _⟩
theorem run_cell3 (w : World) (b o : Nat) (v : Value) (hc : w.cell? ⟨b, o, none⟩ = some v) (x : Operand) (hx : a.eval x = .pointer (some ⟨b, o, none⟩)) : (execOp a.eval ⟨dst, .load 3 x, ty, pos, aft, gd⟩).run Try.prog w = .ok (.value v) w := by
  simp only [execOp, hx]
  go_simp
theorem g_cell3 (x : Operand) (b o : Nat) (v : Value) (hx : a.eval x = .pointer (some ⟨b, o, none⟩)) (hc : w.cell? ⟨b, o, none⟩ = some v) (hk : K v w) : gives Try.prog ⟨dst, .load 3 x, ty, pos, aft, gd⟩ a w K :=
  g_val v w (run_cell3 w b o v hc x hx) hk
theorem run_cell9 (w : World) (b o : Nat) (v : Value) (hc : w.cell? ⟨b, o, none⟩ = some v) (x : Operand) (hx : a.eval x = .pointer (some ⟨b, o, none⟩)) : (execOp a.eval ⟨dst, .load 9 x, ty, pos, aft, gd⟩).run Try.prog w = .ok (.value v) w := by
  simp only [execOp, hx]
  go_simp
theorem g_cell9 (x : Operand) (b o : Nat) (v : Value) (hx : a.eval x = .pointer (some ⟨b, o, none⟩)) (hc : w.cell? ⟨b, o, none⟩ = some v) (hk : K v w) : gives Try.prog ⟨dst, .load 9 x, ty, pos, aft, gd⟩ a w K :=
  g_val v w (run_cell9 w b o v hc x hx) hk
theorem run_cell22 (w : World) (b o : Nat) (v : Value) (hc : w.cell? ⟨b, o, none⟩ = some v) (x : Operand) (hx : a.eval x = .pointer (some ⟨b, o, none⟩)) : (execOp a.eval ⟨dst, .load 22 x, ty, pos, aft, gd⟩).run Try.prog w = .ok (.value v) w := by
  simp only [execOp, hx]
  go_simp
theorem g_cell22 (x : Operand) (b o : Nat) (v : Value) (hx : a.eval x = .pointer (some ⟨b, o, none⟩)) (hc : w.cell? ⟨b, o, none⟩ = some v) (hk : K v w) : gives Try.prog ⟨dst, .load 22 x, ty, pos, aft, gd⟩ a w K :=
  g_val v w (run_cell22 w b o v hc x hx) hk
theorem run_cell24 (w : World) (b o : Nat) (v : Value) (hc : w.cell? ⟨b, o, none⟩ = some v) (x : Operand) (hx : a.eval x = .pointer (some ⟨b, o, none⟩)) : (execOp a.eval ⟨dst, .load 24 x, ty, pos, aft, gd⟩).run Try.prog w = .ok (.value v) w := by
  simp only [execOp, hx]
  go_simp
theorem g_cell24 (x : Operand) (b o : Nat) (v : Value) (hx : a.eval x = .pointer (some ⟨b, o, none⟩)) (hc : w.cell? ⟨b, o, none⟩ = some v) (hk : K v w) : gives Try.prog ⟨dst, .load 24 x, ty, pos, aft, gd⟩ a w K :=
  g_val v w (run_cell24 w b o v hc x hx) hk
theorem g_fH (x : Operand) (b k : Nat) (i : Nat) (hx : a.eval x = .pointer (some ⟨b, 0, none⟩)) (hi : (Instr.fieldAt 26 (.pointer (some ⟨b, 0, none⟩)) i).run Try.prog w = .ok (.pointer (some ⟨b, k, none⟩)) w) (hk : K (.pointer (some ⟨b, k, none⟩)) w) : gives Try.prog ⟨dst, .fieldAddr 26 x i, ty, pos, aft, gd⟩ a w K :=
  g_val _ w (by simp only [execOp, hx, Sem.run_bind, hi, Result.andThen_ok, Sem.run_pure]) hk
end
theorem kf11 (vs : Array Value) (w : World) : (callFunc 11 vs).run Try.prog w = .ok (.enter 11 vs) w := by go_simp
theorem kf12 (vs : Array Value) (w : World) : (callFunc 12 vs).run Try.prog w = .ok (.enter 12 vs) w := by go_simp
theorem kf13 (vs : Array Value) (w : World) : (callFunc 13 vs).run Try.prog w = .ok (.enter 13 vs) w := by go_simp
theorem kf14 (vs : Array Value) (w : World) : (callFunc 14 vs).run Try.prog w = .ok (.enter 14 vs) w := by go_simp
theorem kf15 (vs : Array Value) (w : World) : (callFunc 15 vs).run Try.prog w = .ok (.enter 15 vs) w := by go_simp
theorem kf16 (vs : Array Value) (w : World) : (callFunc 16 vs).run Try.prog w = .ok (.enter 16 vs) w := by go_simp
theorem kf17 (vs : Array Value) (w : World) : (callFunc 17 vs).run Try.prog w = .ok (.enter 17 vs) w := by go_simp
theorem kf18 (vs : Array Value) (w : World) : (callFunc 18 vs).run Try.prog w = .ok (.enter 18 vs) w := by go_simp
theorem kf19 (vs : Array Value) (w : World) : (callFunc 19 vs).run Try.prog w = .ok (.enter 19 vs) w := by go_simp
theorem kf20 (vs : Array Value) (w : World) : (callFunc 20 vs).run Try.prog w = .ok (.enter 20 vs) w := by go_simp
theorem kf21 (vs : Array Value) (w : World) : (callFunc 21 vs).run Try.prog w = .ok (.enter 21 vs) w := by go_simp
theorem kf22 (vs : Array Value) (w : World) : (callFunc 22 vs).run Try.prog w = .ok (.enter 22 vs) w := by go_simp
theorem kf23 (vs : Array Value) (w : World) : (callFunc 23 vs).run Try.prog w = .ok (.enter 23 vs) w := by go_simp
theorem kf24 (vs : Array Value) (w : World) : (callFunc 24 vs).run Try.prog w = .ok (.enter 24 vs) w := by go_simp
theorem kf25 (vs : Array Value) (w : World) : (callFunc 25 vs).run Try.prog w = .ok (.enter 25 vs) w := by go_simp
theorem kf26 (vs : Array Value) (w : World) : (callFunc 26 vs).run Try.prog w = .ok (.enter 26 vs) w := by go_simp
theorem kf27 (vs : Array Value) (w : World) : (callFunc 27 vs).run Try.prog w = .ok (.enter 27 vs) w := by go_simp
theorem kf28 (vs : Array Value) (w : World) : (callFunc 28 vs).run Try.prog w = .ok (.enter 28 vs) w := by go_simp
theorem kf29 (vs : Array Value) (w : World) : (callFunc 29 vs).run Try.prog w = .ok (.enter 29 vs) w := by go_simp
theorem kf30 (vs : Array Value) (w : World) : (callFunc 30 vs).run Try.prog w = .ok (.enter 30 vs) w := by go_simp
theorem kf31 (vs : Array Value) (w : World) : (callFunc 31 vs).run Try.prog w = .ok (.enter 31 vs) w := by go_simp
theorem kf32 (vs : Array Value) (w : World) : (callFunc 32 vs).run Try.prog w = .ok (.enter 32 vs) w := by go_simp
theorem kf33 (vs : Array Value) (w : World) : (callFunc 33 vs).run Try.prog w = .ok (.enter 33 vs) w := by go_simp
theorem kf34 (vs : Array Value) (w : World) : (callFunc 34 vs).run Try.prog w = .ok (.enter 34 vs) w := by go_simp
theorem kf35 (vs : Array Value) (w : World) : (callFunc 35 vs).run Try.prog w = .ok (.enter 35 vs) w := by go_simp
theorem kf36 (vs : Array Value) (w : World) : (callFunc 36 vs).run Try.prog w = .ok (.enter 36 vs) w := by go_simp
theorem kf37 (vs : Array Value) (w : World) : (callFunc 37 vs).run Try.prog w = .ok (.enter 37 vs) w := by go_simp
theorem kf39 (vs : Array Value) (w : World) : (callFunc 39 vs).run Try.prog w = .ok (.enter 39 vs) w := by go_simp
theorem kf40 (vs : Array Value) (w : World) : (callFunc 40 vs).run Try.prog w = .ok (.enter 40 vs) w := by go_simp
theorem kf41 (vs : Array Value) (w : World) : (callFunc 41 vs).run Try.prog w = .ok (.enter 41 vs) w := by go_simp
theorem kf42 (vs : Array Value) (w : World) : (callFunc 42 vs).run Try.prog w = .ok (.enter 42 vs) w := by go_simp
theorem kf44 (vs : Array Value) (w : World) : (callFunc 44 vs).run Try.prog w = .ok (.enter 44 vs) w := by go_simp
end Go.Proofs.Yteieacamokoejaa
