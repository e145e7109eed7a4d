/- Slices of bools below a block, one that is made, and numbers of 64 bits as lists of bits: what the next texts stand on. -/
import Derived.Test.YtcllmobjdnhmlaaRefFit
namespace Go.Proofs.Ytcllmobjdnhmlaa
open Go Go.RowKit
set_option linter.unusedVariables false
/-- A slice that reads as l, in a block below B. -/
def RdL (w : World) (B : Nat) (v : Value) (l : List Bool) : Prop := ∃ g cap sp, g < B ∧ v = .slice (some ⟨g, 0, none⟩) l.length cap ∧ l.length ≤ cap ∧ cap ≤ 9223372036854775807 ∧ cap ≤ l.length + List.length sp ∧ Blk w g (bl l ++ sp) 4
theorem RdL.rd {w : World} {B : Nat} {v : Value} {l : List Bool} (h : RdL w B v l) : Rd w v l := by
  obtain ⟨g, cap, sp, -, h⟩ := h
  exact ⟨g, cap, sp, h⟩
theorem Rd.toL {w : World} {v : Value} {l : List Bool} (h : Rd w v l) : RdL w w.heap.size v l := by
  obtain ⟨g, cap, sp, e, h1, h2, h3, h4⟩ := h
  exact ⟨g, cap, sp, h4.lt, e, h1, h2, h3, h4⟩
theorem RdL.below {w w' : World} {B : Nat} {v : Value} {l : List Bool} (h : RdL w B v l) (hb : Below B w w') : RdL w' B v l := by
  obtain ⟨g, cap, sp, h0, e, h1, h2, h3, h4⟩ := h
  exact ⟨g, cap, sp, h0, e, h1, h2, h3, h4.below hb h0⟩
theorem RdL.turn {w w' : World} {B : Nat} {v : Value} {l : List Bool} {b : Nat} {cs : List Value} {t : TypeId} (h : RdL w B v l) (ht : Turn b w w') (hb : Blk w b cs t) (hn : t ≠ 4) : RdL w' B v l := by
  obtain ⟨g, cap, sp, h0, e, h1, h2, h3, h4⟩ := h
  obtain ⟨g', cap', sp', e', -, -, -, h4'⟩ := Rd.turn ⟨g, cap, sp, e, h1, h2, h3, h4⟩ ht hb hn
  refine ⟨g, cap, sp, h0, e, h1, h2, h3, ht.blk h4 ?_⟩
  rintro rfl
  unfold Blk at h4 hb
  rw [h4] at hb
  simp only [Option.some.injEq, Obj.cells.injEq] at hb
  exact hn hb.2.1.symm
section
variable {a : Act} {w : World} {dst : Option Tmp} {ty : TypeId} {pos : String} {aft : Array Edge} {gd : Option (Nat × Bool)} {K : Value → World → Prop}
theorem g_make (x y : Operand) (n B : Nat) (hx : a.eval x = .int .i64 (n : Nat)) (hy : a.eval y = .int .i64 (n : Nat)) (hn : n ≤ 100000) (hB : B ≤ w.heap.size)
    (h : ∀ w', Own w' B (.slice (some ⟨w.heap.size, 0, none⟩) n n) (List.replicate n false) → Below w.heap.size w w' → K (.slice (some ⟨w.heap.size, 0, none⟩) n n) w') :
    gives Try.prog ⟨dst, .makeSlice 52 x y, ty, pos, aft, gd⟩ a w K := by
  obtain ⟨i, hi, he⟩ : ∃ i, Try.prog.info? 4 = some i ∧ (i.zero, i.size, i.bytes) = (some (.bool false), 1, 1) := by
    have h := info4
    cases hi : Try.prog.info? 4 with
    | none => rw [hi] at h; cases h
    | some i => rw [hi] at h; exact ⟨i, rfl, Option.some.inj h⟩
  have hby : i.bytes = 1 := congrArg (·.2.2) he
  obtain ⟨w', hrun, r1, r2⟩ := run_make_full (P := Try.prog) w B 52 4 i (.bool false) 1 Try.underlying52 hi (congrArg (·.1) he) (congrArg (·.2.1) he) .i64 .i64 n (by rw [hby]; omega) (by unfold maxLen; omega) hB
  refine g_val _ w' (by simp [execOp, hx, hy, hrun, Result.andThen]) (h w' ?_ ⟨r2.os, r2.tape, r2.output, r2.size, fun k hk => r2.block k hk (by intro e; cases e)⟩)
  have e : (madeCells (Value.bool false).cells (n * 1)).toList = bl (List.replicate n false) := by
    rw [Nat.mul_one]
    rw [show (madeCells (Value.bool false).cells n).toList = List.replicate n (.bool false) from toList_madeCells_one _ _]
    simp [bl]
  rw [e] at r1
  unfold Own
  rw [List.length_replicate]
  exact r1
end

theorem val_bit' (m k : Nat) (l : List Bool) (x : Bool) (hl : l.length = k) (hv : val l = m % 2 ^ k) (hx : decide (((m / 2 ^ k % 2 : Nat) : Int) = 1) = x) : val (l ++ [x]) = m % 2 ^ (k + 1) := val_bit m k l x hl hv hx
theorem from_h (hi zh : Int) (s : Bool) (lh : List Bool) (hhi : In64 hi) (hc : Can lh) (hv : val lh = hi.natAbs) (hs : s = decide (hi < 0)) (hzh : Hid (hi * 18446744073709551616 = zh)) : lh.length ≤ 64 ∧ Hid (iv s (List.replicate 64 false ++ lh) = zh) := by
  unfold In64 at hhi
  constructor
  · refine (hc.len 64).2 ?_
    rw [hv]
    omega
  · show _ = _
    rw [iv, val_append, val_zeros, List.length_replicate, hv, ← hzh.out, hs]
    by_cases h : hi < 0
    · rw [decide_eq_true h, if_pos rfl]; omega
    · rw [decide_eq_false h, if_neg (by decide)]; omega

end Go.Proofs.Ytcllmobjdnhmlaa
