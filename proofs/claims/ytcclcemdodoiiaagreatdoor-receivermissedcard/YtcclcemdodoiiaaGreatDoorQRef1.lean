/- What the reference's Take, Put answer: as the program's do. What the reference's right, constants, filled answer; slices of numbers that the program owns. -/
import Derived.Test.YtcclcemdodoiiaaGreatDoorQBas
import Derived.Test.YtcclcemdodoiiaaGreatDoorQShelf
import Derived.Test.YtcclcemdodoiiaaGreatDoorQShaW5
import Derived.Laws.AppendOwn
import Derived.Great.BuildSlice
namespace Go.Proofs.YtcclcemdodoiiaaGreatDoor
set_option maxRecDepth 10000
open Go.RowKit
set_option linter.unusedVariables false
set_option maxHeartbeats 400000 in
theorem rtake_any (s : ByteArray) (w : World) (h8 : s.size ≤ 8) :
    Calls Tryz.prog 108 #[.string s] w fun e w' => e = .returned (.tuple #[.int .u64 (num s.data.toList), .int .i64 0]) ∧ w' = w := by
  go_enter Tryz.func108, Tryz.ntmps108
  go_wp2
  go_loop [4, 5] (fun n i => ∃ k m : Nat, k ≤ s.size ∧ i = .int .i64 k ∧ n = .int .u64 m ∧ Hid (m = num (s.data.toList.take k))) (fun _ i => s.size - (intOf i).toNat)
  case atStart => exact ⟨0, 0, Nat.zero_le _, rfl, rfl, rfl⟩
  case round =>
    obtain ⟨k, m, hk, rfl, rfl, hm⟩ := hrel
    by_cases hlt : k < s.size
    · have hm2 : Hid (IntKind.u64.wrap (IntKind.u64.wrap (↑m * 256) + IntKind.u64.wrap ↑s[k].toNat) = ((num (s.data.toList.take (k + 1)) : Nat) : Int)) := by
        show _ = _
        have h1 := num_take_lt s k (by omega)
        rw [← hm.out] at h1
        have h2 := s[k].toNat_lt
        rw [take_snoc s k hlt, num_snoc, ← hm.out, wraps_u64 (↑m * 256) (by omega) (by omega), wraps_u64 ↑s[k].toNat (by omega) (by omega), wraps_u64 _ (by omega) (by omega)]
        omega
      go_wp2
      go_round
      case rel => exact ⟨k + 1, _, by omega, by go_num, congrArg _ hm2.out, rfl⟩
      case measure => simp [intOf]; omega
    · go_wp2
      go_ret2
      refine ⟨?_, rfl⟩
      have e : s.data.toList.take k = s.data.toList := List.take_of_length_le (by simp; omega)
      have hm' := hm.out
      rw [e] at hm'
      rw [← hm']
      rfl
theorem one_more (wr : World) (n k m : Nat) (S : ByteArray) (hm : m = n / 256 ^ k) (hS : S.size = k) (hl : S.data.toList = putL n k) :
    ∃ X S' : ByteArray, (convert 60 9 (.slice (some ⟨wr.heap.size, 0, none⟩) 1 1)).run Tryz.prog (wr.alloc (.cells #[.int .u8 ((m : Int) % 256)] 5)) = .ok (.string X) (wr.alloc (.cells #[.int .u8 ((m : Int) % 256)] 5)) ∧
      X ++ S = S' ∧ X.size = 1 ∧ S'.size = k + 1 ∧ Hid (S'.data.toList = putL n (k + 1)) := by
  have e : (((UInt8.ofNat (m % 256)).toNat : Nat) : Int) = (m : Int) % 256 := by
    rw [UInt8.toNat_ofNat', Nat.mod_eq_of_lt (Nat.mod_lt _ (by decide))]; omega
  have hl2 : ((⟨#[UInt8.ofNat (m % 256)]⟩ : ByteArray) ++ S).data.toList = putL n (k + 1) := by
    rw [ByteArray.data_append, Array.toList_append, hl, putL_cons, ← hm]; rfl
  refine ⟨⟨#[UInt8.ofNat (m % 256)]⟩, _, ?_, rfl, rfl, ?_, hl2⟩
  · refine run_convert_bytes_back _ 60 9 5 ⟨wr.heap.size, 0, none⟩ 1 [UInt8.ofNat (m % 256)] Tryz.underlying60 Tryz.underlying5 Tryz.underlying9 (fun j hj => ?_)
    have hj0 : j = 0 := by simp at hj; omega
    subst hj0
    have ea : (⟨wr.heap.size, 0, none⟩ : Addr).add 0 = ⟨wr.heap.size, 0, none⟩ := by unfold Addr.add; split <;> simp_all
    rw [ea, cell_of_row _ _ _ _ _ _ (heap_alloc_new wr _)]
    show some _ = some _
    rw [← e]; rfl
  · rw [Lib.size_eq, hl2, putL_length]
set_option maxHeartbeats 1000000 in
theorem rput_any (n c : Nat) (b : Int) (w : World) (hb : Told b c) (hn : n < 18446744073709551616) :
    Calls Tryz.prog 61 #[.int .u64 n, .int .i64 b] w fun e w' => e = .returned (.string ⟨(putL n c).toArray⟩) ∧ Below w.heap.size w w' := by
  have hc : c ≤ 8 := by rcases hb with h | h | h <;> omega
  have hlo : Hid (∀ k : Nat, k < c → (k : Int) < b) := by intro k hk; rcases hb with h | h | h <;> omega
  have hhi : Hid (c < 8 → b ≤ c) := by intro hk; rcases hb with h | h | h <;> omega
  clear hb
  go_enter Tryz.func61, Tryz.ntmps61
  go_wp2
  go_loopw [0, 5, 6] (fun x o i wr => ∃ (k m : Nat) (S : ByteArray), k ≤ c ∧ i = .int .i64 k ∧ x = .int .u64 m ∧ Hid (m = n / 256 ^ k) ∧ o = .string S ∧ S.size = k ∧ Hid (S.data.toList = putL n k) ∧ Below w.heap.size w wr) (fun _ _ i _ => c - (intOf i).toNat)
  case atStart => exact ⟨0, n, ByteArray.empty, Nat.zero_le _, rfl, rfl, by simp [Hid], rfl, rfl, rfl, Below.refl _ _⟩
  case round =>
    obtain ⟨k, m, S, hk, rfl, rfl, hm, rfl, hS, hSl, hbw⟩ := hrel
    by_cases hlt : k < c
    · have hkb := hlo.out k hlt
      have hmb : m ≤ 18446744073709551615 := by rw [hm.out]; exact Nat.le_trans (Nat.div_le_self _ _) (by omega)
      obtain ⟨X, S', hcv, hX, hX1, hS', hSl'⟩ := one_more wr n k m S hm.out hS hSl.out
      go_wp2
      go_roundw
      case rel => exact ⟨k + 1, m / 256, S', by omega, by go_num, by go_num, by show _ = _; rw [hm.out, Nat.div_div_eq_div_mul, Nat.pow_succ], rfl, hS', hSl', hbw.alloc hbw.size _⟩
      case measure => simp [intOf]; omega
    · have hend : Hid (S = ⟨(putL n c).toArray⟩) := by
        obtain rfl : k = c := by omega
        apply ByteArray.ext; apply Array.toList_inj.1; exact hSl.out
      by_cases h8 : c < 8
      · have hkb := hhi.out h8
        go_wp2
        go_ret
        exact ⟨ret_string hend.out, hbw⟩
      · go_wp2
        all_goals
          go_ret
          exact ⟨ret_string hend.out, hbw⟩
end Go.Proofs.YtcclcemdodoiiaaGreatDoor
namespace Go.Proofs.YtcclcemdodoiiaaGreatDoor
set_option maxRecDepth 10000
open Go.RowKit
set_option linter.unusedVariables false
theorem or_swap (N : BitVec 32) (k : Nat) (h1 : 1 ≤ k) (h2 : k ≤ 31) : bits .or .u32 (↑N.toNat / 2 ^ k) (↑N.toNat * 2 ^ (32 - k) % 4294967296) = ((rl N (-(k : Int))).toNat : Int) := by
  have h3 : ((N.toNat : Int) * 2 ^ (32 - k) % 4294967296) = ((N.toNat <<< (32 - k) % 2 ^ 32 : Nat) : Int) := by
    rw [Nat.shiftLeft_eq, Int.natCast_emod, Int.natCast_mul, Int.natCast_pow, Int.natCast_pow]
    exact congrArg _ (by decide)
  have h4 : ((N.toNat : Int) / 2 ^ k) = ((N.toNat >>> k : Nat) : Int) := by
    rw [Nat.shiftRight_eq_div_pow, Int.natCast_ediv, Int.natCast_pow]; rfl
  rw [h3, h4, (bits_nat .u32 32 (by decide) wraps_u32 _ _ (Nat.lt_of_le_of_lt (Nat.shiftRight_le _ _) N.isLt) (Nat.mod_lt _ (by decide))).2]
  rw [show rl N (-(k : Int)) = N.rotateLeft (32 - k) by rw [rl]; congr 1; omega, BitVec.toNat_rotateLeft, Nat.mod_eq_of_lt (show 32 - k < 32 by omega), show 32 - (32 - k) = k by omega, Nat.or_comm]
theorem right_any (N : BitVec 32) (k : Nat) (h1 : 1 ≤ k) (h2 : k ≤ 31) (w : World) :
    Calls Tryz.prog 86 #[.int .u32 N.toNat, .int .i64 k] w fun e w' => e = .returned (.int .u32 (rl N (-(k : Int))).toNat) ∧ ∃ m, w' = w.drewN m := by
  have hor := or_swap N k h1 h2
  go_enter Tryz.func86, Tryz.ntmps86
  go_wp2_with fail
  go_quiet (fail)
  go_wp2_with fail
  go_ret
  exact ⟨rfl, nq, rfl⟩
/-! ### A slice of numbers that the program owns -/
def Own (w : World) (B : Nat) (v : Value) (l : List (BitVec 32)) : Prop := w.ownsRow B 157 1 v l.length (c32 l)
theorem Own.below {w w' : World} {B : Nat} {v : Value} {l : List (BitVec 32)} (h : Own w B v l) (hb : Below w.heap.size w w') : Own w' B v l := by
  refine ⟨h.1, ?_⟩
  rcases h.2 with hn | ⟨g, cap, cur, rfl, hg, hgg, rest⟩
  · exact .inl hn
  · exact .inr ⟨g, cap, cur, rfl, hg, (hb.block g (Array.getElem?_eq_some_iff.1 hgg).1).trans hgg, rest⟩
theorem Own.blk {w : World} {B : Nat} {v : Value} {l : List (BitVec 32)} (h : Own w B v l) (hl : l ≠ []) :
    ∃ g cap sp, v = .slice (some ⟨g, 0, none⟩) l.length cap ∧ B ≤ g ∧ l.length ≤ cap ∧ cap ≤ 9223372036854775807 ∧ sp.length + l.length = cap ∧ Blk w g (c32 l ++ sp) 157 := by
  rcases h.2 with ⟨_, hn⟩ | ⟨g, cap, cur, rfl, hg, hgg, h1, h2, h3, h4⟩
  · exact absurd (List.eq_nil_of_length_eq_zero hn) hl
  · rw [Nat.mul_one] at h3 h4
    refine ⟨g, cap, cur.toList.drop l.length, rfl, hg, h1, h2, ?_, ?_⟩
    · rw [List.length_drop, Array.length_toList]; omega
    · rw [← h4, List.take_append_drop]; exact hgg
theorem Own.of {w : World} {B g cap : Nat} {l : List (BitVec 32)} {sp : List Value} (hB : B ≤ g) (hc : sp.length + l.length = cap) (hm : cap ≤ 9223372036854775807) (h : Blk w g (c32 l ++ sp) 157) : Own w B (.slice (some ⟨g, 0, none⟩) l.length cap) l := by
  refine ⟨by rw [c32_length, Nat.mul_one], .inr ⟨g, cap, (c32 l ++ sp).toArray, rfl, hB, h, by omega, hm, ?_, ?_⟩⟩
  · rw [List.size_toArray, List.length_append, c32_length]; omega
  · rw [Nat.mul_one, List.take_left' (c32_length l)]
theorem Own.up {w : World} {B C : Nat} {v : Value} {l : List (BitVec 32)} (h : Own w B v l) (hC : C ≤ B) : Own w C v l := by
  refine ⟨h.1, ?_⟩
  rcases h.2 with hn | ⟨g, cap, cur, e, hg, rest⟩
  · exact .inl hn
  · exact .inr ⟨g, cap, cur, e, by omega, rest⟩
theorem row_cell {w : World} {g : Nat} {l : List (BitVec 32)} {sp : List Value} (h : Blk w g (c32 l ++ sp) 157) (j : Nat) (hj : j < l.length) : w.cell? ⟨g, j, none⟩ = some (.int .u32 ((l.getD j 0).toNat : Int)) := by
  refine h.cell j _ ?_
  rw [List.getElem?_append_left (by rw [c32_length]; exact hj), c32_at l j hj]
theorem row_set {w : World} {g : Nat} {l : List (BitVec 32)} {sp : List Value} (h : Blk w g (c32 l ++ sp) 157) (j : Nat) (x : BitVec 32) (hj : j < l.length) :
    Turn g w (w.setCell ⟨g, j, none⟩ (.int .u32 x.toNat)) ∧ Blk (w.setCell ⟨g, j, none⟩ (.int .u32 x.toNat)) g (c32 (l.set j x) ++ sp) 157 := by
  obtain ⟨t1, t2⟩ := turn_setCell w g j (.int .u32 x.toNat) _ 157 h
  rw [List.set_append_left _ _ (by rw [c32_length]; exact hj), c32_set] at t2
  exact ⟨t1, t2⟩
section
variable {P : Program} {ops : Array Oper} {Q : Exit → Act → World → Prop} {a : Act} {w : World} {rest : List Oper} {dst : Option Tmp} {ty : TypeId} {pos : String} {aft : Array Edge}
theorem at_build {t : TypeId} {ps : Array (Nat × Operand)} (n : Nat) (h : wpList P ops Q (⟨dst, .buildSlice t n ps, ty, pos, aft, none⟩ :: rest) a w) : wpList P ops Q (⟨dst, .buildSlice t n ps, ty, pos, aft, none⟩ :: rest) a w := h
end
theorem info157 : (Tryz.prog.info? 157).map (fun i => (i.zero, i.size, i.bytes)) = some (some (.int .u32 0), 1, 4) := by kernel_rfl
/-- 'append(v, x...)', v owned. -/
theorem run_app {w : World} (ty : TypeId) (B : Nat) (v : Value) (l news : List (BitVec 32)) (ho : Own w B v l) (b o m c : Nat) (hm : news.length = m)
    (hn : ∀ j, j < m → w.cell? ⟨b, o + j, none⟩ = some (.int .u32 ((news.getD j 0).toNat : Int))) (hs : l.length + m ≤ 100000) (hB : B ≤ w.heap.size) :
    ∃ v' w', (Builtin.append_ #[158, 158] ty #[v, .slice (some ⟨b, o, none⟩) m c]).run Tryz.prog w = .ok v' w' ∧ Own w' B v' (l ++ news) ∧ Below B w w' := by
  obtain ⟨i, hi, he⟩ : ∃ i, Tryz.prog.info? 157 = some i ∧ (i.zero, i.size, i.bytes) = (some (.int .u32 0), 1, 4) := by
    have h := info157
    cases hi : Tryz.prog.info? 157 with
    | none => rw [hi] at h; cases h
    | some i => rw [hi] at h; exact ⟨i, rfl, Option.some.inj h⟩
  obtain ⟨v', w', h1, h2, h3, -⟩ := run_append_own (P := Tryz.prog) w B 158 ty 157 i (.int .u32 0) 1 4 Tryz.underlying158 hi (congrArg (·.1) he) (congrArg (·.2.1) he) (congrArg (·.2.2) he) rfl (by decide) v l.length (c32 l) ho
    ⟨b, o, none⟩ m c (c32 news) (by rw [c32_length, Nat.mul_one, hm]) (fun j u hu => by
      have hj : j < m := by have := (List.getElem?_eq_some_iff.1 hu).1; rw [c32_length] at this; omega
      rw [c32_at news j (by omega)] at hu
      rw [Addr.add_mid, hn j hj, ← hu]) (c32_one _) (by show _ ≤ 9223372036854775807; omega) (by omega) hB
  refine ⟨v', w', h1, ?_, ⟨h3.os, h3.tape, h3.output, h3.size, fun k hk => h3.block k (by omega) (fun e => ?_)⟩⟩
  · have e : c32 l ++ c32 news = c32 (l ++ news) := by simp [c32]
    rw [e, ← hm, ← List.length_append] at h2
    exact h2
  · have := (ho.lt k e.symm).1
    omega
theorem L_app {ops : Array Oper} {Q : Exit → Act → World → Prop} {a : Act} {w : World} {rest : List Oper} {dst : Option Tmp} {ty : TypeId} {pos : String} {aft : Array Edge} (x y : Operand) (B : Nat) (v : Value) (l news : List (BitVec 32))
    (hx : a.eval x = v) (ho : Own w B v l) (b o m c : Nat) (hy : a.eval y = .slice (some ⟨b, o, none⟩) m c) (hm : news.length = m)
    (hn : ∀ j, j < m → w.cell? ⟨b, o + j, none⟩ = some (.int .u32 ((news.getD j 0).toNat : Int))) (hs : l.length + m ≤ 100000) (hB : B ≤ w.heap.size)
    (h : ∀ v' w', Own w' B v' (l ++ news) → Below B w w' → wpList Tryz.prog ops Q rest (a.put dst v') w') :
    wpList Tryz.prog ops Q (⟨dst, .call { callee := .builtin .append, args := #[x, y], argTypes := #[158, 158] }, ty, pos, aft, none⟩ :: rest) a w := by
  obtain ⟨v', w', hr, h1, h2⟩ := run_app ty B v l news ho b o m c hm hn hs hB
  refine wpList_plain rfl fun K hK => ?_
  unfold Oper.wp execOp
  simp only [resolve, invoke, builtin, Sem.run_bind, Sem.run_pure, Result.andThen_ok, List.map_toArray, List.map_cons, List.map_nil, hx, hy, hr]
  exact hK _ _ (h v' w' h1 h2)
theorem run_build1 (w : World) (x : BitVec 32) : (Instr.buildSlice 158 1 #[(0, .int .u32 x.toNat)]).run Tryz.prog w = .ok (.slice (some ⟨w.heap.size, 0, none⟩) 1 1) (w.alloc (.cells #[.int .u32 x.toNat] 157)) := by
  go_simp
theorem run_build0 (w : World) : (Instr.buildSlice 158 0 #[]).run Tryz.prog w = .ok (.slice (some ⟨w.heap.size, 0, none⟩) 0 0) (w.alloc (.cells #[] 157)) := by
  go_simp
theorem size157 : (Tryz.prog.info? 157).map (·.size) = some 1 := by kernel_rfl
theorem some31 : ((Tryz.prog.info? 157).bind (·.zero)).isSome = true := by kernel_rfl
/-- A slice of numbers, written out. -/
theorem L_flat {ops : Array Oper} {Q : Exit → Act → World → Prop} {a : Act} {w : World} {rest : List Oper} {dst : Option Tmp} {ty : TypeId} {pos : String} {aft : Array Edge} (len : Nat) (parts : Array (Nat × Operand)) (l : List (BitVec 32)) (hl : len = l.length) (h0 : 0 < len) (h1 : len ≤ 100000)
    (hparts : parts.toList = ((l.map fun x => (x.toNat : Int)).zipIdx 0).map fun x => (x.2, Operand.const (Value.int .u32 x.1)))
    (h : ∀ w', Turn w.heap.size w w' → Blk w' w.heap.size (c32 l) 157 → wpList Tryz.prog ops Q rest (a.put dst (.slice (some ⟨w.heap.size, 0, none⟩) len len)) w') :
    wpList Tryz.prog ops Q (⟨dst, .buildSlice 158 len parts, ty, pos, aft, none⟩ :: rest) a w := by
  have e : (l.map fun x => (x.toNat : Int)).map (Value.int .u32) = c32 l := by simp [c32]
  refine wpList_buildFlat rfl 158 157 len parts rfl .u32 (l.map fun x => (x.toNat : Int)) Tryz.underlying158 size157 some31 (by simp [hl]) h0 (by omega) hparts ?_
  rw [e]
  obtain ⟨h2, h3⟩ := turn_alloc w (c32 l) 157
  exact h _ h2 h3
theorem L_build1 {ops : Array Oper} {Q : Exit → Act → World → Prop} {a : Act} {w : World} {rest : List Oper} {dst : Option Tmp} {ty : TypeId} {pos : String} {aft : Array Edge} (y : Operand) (x : BitVec 32) (hy : a.eval y = .int .u32 x.toNat)
    (h : ∀ w', Turn w.heap.size w w' → Blk w' w.heap.size (c32 [x]) 157 → wpList Tryz.prog ops Q rest (a.put dst (.slice (some ⟨w.heap.size, 0, none⟩) 1 1)) w') :
    wpList Tryz.prog ops Q (⟨dst, .buildSlice 158 1 #[(0, y)], ty, pos, aft, none⟩ :: rest) a w := by
  refine wpList_plain rfl fun K hK => ?_
  unfold Oper.wp execOp
  simp only [List.map_toArray, List.map_cons, List.map_nil, hy, Sem.run_bind, run_build1, Result.andThen_ok, Sem.run_pure]
  obtain ⟨h2, h3⟩ := turn_alloc w (c32 [x]) 157
  exact hK _ _ (h _ h2 h3)
theorem L_build0 {ops : Array Oper} {Q : Exit → Act → World → Prop} {a : Act} {w : World} {rest : List Oper} {dst : Option Tmp} {ty : TypeId} {pos : String} {aft : Array Edge}
    (h : ∀ w', Turn w.heap.size w w' → Blk w' w.heap.size (c32 []) 157 → wpList Tryz.prog ops Q rest (a.put dst (.slice (some ⟨w.heap.size, 0, none⟩) 0 0)) w') :
    wpList Tryz.prog ops Q (⟨dst, .buildSlice 158 0 #[], ty, pos, aft, none⟩ :: rest) a w := by
  refine wpList_plain rfl fun K hK => ?_
  unfold Oper.wp execOp
  simp only [List.map_toArray, List.map_nil, Sem.run_bind, run_build0, Result.andThen_ok, Sem.run_pure]
  obtain ⟨h2, h3⟩ := turn_alloc w (c32 []) 157
  exact hK _ _ (h _ h2 h3)
set_option maxRecDepth 100000 in
theorem constants_any (w : World) :
    Calls Tryz.prog 83 #[] w fun e w' => e = .returned (.slice (some ⟨w.heap.size, 0, none⟩) 64 64) ∧ Turn w.heap.size w w' ∧ Blk w' w.heap.size (c32 kon) 157 := by
  go_enter Tryz.func83, Tryz.ntmps83
  go_wp2_with (first
    | ((with_reducible refine at_build 64 ?_); refine L_flat 64 _ kon rfl (by decide) (by decide) (by kernel_rfl) ?_; intro w1 h1 hb1))
  go_ret
  exact ⟨rfl, h1, hb1⟩
theorem append_toList (a b : ByteArray) : (a ++ b).data.toList = a.data.toList ++ b.data.toList := by
  rw [ByteArray.data_append, Array.toList_append]
set_option maxHeartbeats 400000 in
theorem filled_any (T : ByteArray) (w : World) (hT : T.size ≤ 1000000) :
    Calls Tryz.prog 84 #[.string T] w fun e w' => e = .returned (.string ⟨(filled T.data.toList).toArray⟩) ∧ Below w.heap.size w w' := by
  obtain ⟨z, hz⟩ : ∃ z, 63 - (T.size + 8) % 64 = z := ⟨_, rfl⟩
  go_enter Tryz.func84, Tryz.ntmps84
  go_wp2_with fail
  go_loop [3] (fun x => ∃ (j : Nat) (S : ByteArray), j ≤ z ∧ x = .string S ∧ S.size = T.size + 1 + j ∧ Hid (S.data.toList = T.data.toList ++ 128 :: List.replicate j 0)) (fun x => T.size + 1 + z - szOf x)
  case atStart => exact ⟨0, _, by omega, rfl, by rw [ByteArray.size_append]; rfl, by show _ = _; rw [append_toList]; rfl⟩
  case round =>
    obtain ⟨j, S, hj, rfl, hS, hSl⟩ := hrel
    by_cases hlt : j < z
    · have hne : ¬ ((S.size : Int) % 64 = 56) := by omega
      go_wp2_with fail
      refine ⟨⟨j + 1, S ++ ⟨#[0]⟩, by omega, rfl, by rw [ByteArray.size_append, hS]; rfl, ?_⟩, ?_⟩
      · show _ = _
        rw [append_toList, hSl.out, List.append_assoc, List.cons_append, List.replicate_succ']
      · show T.size + 1 + z - (S ++ ⟨#[0]⟩).size < T.size + 1 + z - S.size
        rw [ByteArray.size_append, hS, show (⟨#[0]⟩ : ByteArray).size = 1 from rfl]
        omega
    · have hne : (S.size : Int) % 64 = 56 := by omega
      go_wp2_with fail
      have hp := rput_any (8 * T.size) 8 8 w (.inr (.inl ⟨by omega, by omega, rfl⟩)) (by omega)
      rw [show (((8 * T.size : Nat)) : Int) = 8 * (T.size : Int) by omega] at hp
      obtain ⟨X, hX⟩ : ∃ X : ByteArray, (⟨(putL (8 * T.size) 8).toArray⟩ : ByteArray) = X := ⟨_, rfl⟩
      have hXs : X.size = 8 := by rw [← hX, Lib.size_eq]; exact putL_length _ _
      have HX : Hid (X.data.toList = putL (8 * T.size) 8) := by show _ = _; rw [← hX]
      rw [hX] at hp
      clear hX
      refine hp.mono ?_; rintro e w1 ⟨rfl, hb1⟩
      go_wp2_with fail
      go_ret
      refine ⟨?_, hb1⟩
      refine ret_string ?_
      apply ByteArray.ext; apply Array.toList_inj.1
      rw [append_toList, hSl.out, HX.out, filled, fillB, ← Lib.size_eq, show j = 63 - (T.size + 8) % 64 by omega]
end Go.Proofs.YtcclcemdodoiiaaGreatDoor
