/- What single operations on the reference's numbers yield. -/
import Derived.Test.YtcllmobjdnhmlaaBare
namespace Go.Proofs.Ytcllmobjdnhmlaa
open Go Go.RowKit
set_option linter.unusedVariables false
section
variable {P : Program} {ops : Array Oper} {rest : List Oper} {a : Act} {w : World} {Q : Exit → Act → World → Prop} {dst : Option Tmp} {ty yt : TypeId} {pos : String} {aft : Array Edge} {gd : Option (Nat × Bool)} {K : Value → World → Prop}
theorem g_shr (x y : Operand) (m k : Nat) (hm : m < 18446744073709551616) (hk : k < 64) (hx : a.eval x = .int .u64 m) (hy : a.eval y = .int .i64 k) (hk' : K (.int .u64 ((m / 2 ^ k : Nat) : Int)) w) : gives Try.prog ⟨dst, .binOp .shr 41 x y 3, ty, pos, aft, gd⟩ a w K := by
  refine g_val _ w ?_ hk'
  simp only [execOp, hx, hy]
  go_simp
theorem g_rem (x : Operand) (q : Nat) (hx : a.eval x = .int .u64 q) (hk' : K (.int .u64 ((q % 2 : Nat) : Int)) w) : gives Try.prog ⟨dst, .binOp .rem 41 x (.const (.int .u64 2)) 41, ty, pos, aft, gd⟩ a w K := by
  refine g_val _ w ?_ hk'
  have e : a.eval (.const (.int .u64 2)) = .int .u64 2 := rfl
  simp only [execOp, hx, e]
  go_simp
  exact Int.tmod_eq_emod_of_nonneg (by omega)
theorem g_fieldR_1 (x : Operand) (b : Nat) (hx : a.eval x = .pointer (some ⟨b, 0, none⟩)) (hk : K (.pointer (some ⟨b, 1, none⟩)) w) : gives Try.prog ⟨dst, .fieldAddr 54 x 1, ty, pos, aft, gd⟩ a w K :=
  g_val _ w (by simp only [execOp, hx]; go_simp) hk
theorem g_fieldR_0 (x : Operand) (b : Nat) (hx : a.eval x = .pointer (some ⟨b, 0, none⟩)) (hk : K (.pointer (some ⟨b, 0, none⟩)) w) : gives Try.prog ⟨dst, .fieldAddr 54 x 0, ty, pos, aft, gd⟩ a w K :=
  g_val _ w (by simp only [execOp, hx]; go_simp) hk
theorem g_cell52 (x : Operand) (b o : Nat) (cs : List Value) (bt : TypeId) (v : Value) (hx : a.eval x = .pointer (some ⟨b, o, none⟩)) (hb : Blk w b cs bt) (hv : cs[o]? = some v) (hk : K v w) : gives Try.prog ⟨dst, .load 52 x, ty, pos, aft, gd⟩ a w K := by
  have hc := hb.cell o v hv
  exact g_val v w (by simp only [execOp, hx]; go_simp) hk
theorem g_cell4 (x : Operand) (b o : Nat) (cs : List Value) (bt : TypeId) (v : Value) (hx : a.eval x = .pointer (some ⟨b, o, none⟩)) (hb : Blk w b cs bt) (hv : cs[o]? = some v) (hk : K v w) : gives Try.prog ⟨dst, .load 4 x, ty, pos, aft, gd⟩ a w K := by
  have hc := hb.cell o v hv
  exact g_val v w (by simp only [execOp, hx]; go_simp) hk
theorem g_store32 (x y : Operand) (b o : Nat) (cs : List Value) (bt : TypeId) (v old : Value) (h1 : ∃ p n c, v = .slice p n c) (hx : a.eval x = .pointer (some ⟨b, o, none⟩)) (hy : a.eval y = v) (hb : Blk w b cs bt) (hv : cs[o]? = some old)
    (hk : ∀ w', Turn b w w' → Blk w' b (cs.set o v) bt → K undef w') : gives Try.prog ⟨dst, .store 52 x y, ty, pos, aft, gd⟩ a w K := by
  have hc := hb.cell o old hv
  have hf := hb.frozen o
  obtain ⟨t1, t2⟩ := turn_setCell w b o v cs bt hb
  unfold gives
  obtain ⟨p, n, c, rfl⟩ := h1
  have e : (execOp a.eval ⟨dst, .store 52 x y, ty, pos, aft, gd⟩).run Try.prog w = .ok .skip (w.setCell ⟨b, o, none⟩ (.slice p n c)) := by
    simp only [execOp, hx, hy]
    go_simp
  rw [e]
  exact hk _ t1 t2
/-- A sign and a slice: the cells of a number. -/
def rc (s : Bool) (b : Value) : List Value := [.bool s, b]
theorem g_buildR (x y : Operand) (s : Bool) (b : Value) (hs : ∃ p n c, b = .slice p n c) (hx : a.eval x = .bool s) (hy : a.eval y = b) (hk : K (.agg #[.bool s, b]) w) : gives Try.prog ⟨dst, .build 54 #[(0, x), (1, y)], ty, pos, aft, gd⟩ a w K := by
  obtain ⟨p, n, c, rfl⟩ := hs
  exact g_val (.agg #[.bool s, .slice p n c]) w (by simp only [execOp, hx, hy, List.map_toArray, List.map_cons, List.map_nil]; go_simp) hk
theorem g_field (x : Operand) (s : Bool) (b : Value) (hx : a.eval x = .agg #[.bool s, b]) (hk : K b w) : gives Try.prog ⟨dst, .field 54 x 1, ty, pos, aft, gd⟩ a w K :=
  g_val b w (by simp [execOp, hx, Instr.field, run_underlying Try.underlying54, part, asAgg]) hk
theorem g_len (x : Operand) (p : Option Addr) (n c : Nat) (hx : a.eval x = .slice p n c) (hk : K (.int .i64 n) w) : gives Try.prog ⟨dst, .call { callee := .builtin .len, args := #[x], argTypes := #[52] }, ty, pos, aft, gd⟩ a w K :=
  g_val (.int .i64 n) w (by simp only [execOp, resolve, invoke, builtin, List.map_toArray, List.map_cons, List.map_nil, hx, Sem.run_bind, Sem.run_pure, Result.andThen_ok]; go_simp) hk
end
theorem one_rc (s : Bool) (b : Value) (hs : ∃ p n c, b = .slice p n c) : ∀ v ∈ [Value.bool s, b], v.oneCell' = true := by
  intro v hv
  obtain ⟨p, n, c, rfl⟩ := hs
  simp only [List.mem_cons, List.not_mem_nil, or_false] at hv
  rcases hv with rfl | rfl <;> rfl
theorem zeroR : ∀ w, (zeroValue 54).run Try.prog w = .ok (.agg [Value.bool false, .slice none 0 0].toArray) w := by
  intro w; kernel_rfl
theorem Rd.sl {w : World} {v : Value} {l : List Bool} (h : Rd w v l) : ∃ p n c, v = .slice p n c := by
  obtain ⟨g, cap, sp, e, _⟩ := h
  exact ⟨_, _, _, e⟩
theorem RF.sl {w : World} {s : Bool} {v : Value} {z : Int} (h : RF w s v z) : ∃ p n c, v = .slice p n c := by
  obtain ⟨l, h, _⟩ := h
  exact h.sl
theorem RS.sl {w : World} {v : Value} {n k : Nat} (h : RS w v n k) : ∃ p n c, v = .slice p n c := by
  obtain ⟨l, h, _⟩ := h
  exact h.sl
theorem Own.sl {w : World} {B : Nat} {v : Value} {l : List Bool} (h : Own w B v l) : ∃ p n c, v = .slice p n c := by
  rcases h.2 with ⟨rfl, _⟩ | ⟨g, cap, cur, rfl, _⟩
  · exact ⟨_, _, _, rfl⟩
  · exact ⟨_, _, _, rfl⟩
end Go.Proofs.Ytcllmobjdnhmlaa
