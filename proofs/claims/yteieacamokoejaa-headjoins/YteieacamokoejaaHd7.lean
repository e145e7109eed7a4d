/- What single operations yield: bits and parts of bytes, an array's element, a cell that is written. What the program's head.Take answers. -/
import Derived.Test.YteieacamokoejaaHd6
namespace Go.Proofs.Yteieacamokoejaa
open Go Go.RowKit
set_option linter.unusedVariables false

section
variable {P : Program} {ops : Array Oper} {rest : List Oper} {a : Act} {w : World} {Q : Exit → Act → World → Prop} {dst : Option Tmp} {ty yt : TypeId} {pos : String} {aft : Array Edge} {gd : Option (Nat × Bool)} {K : Value → World → Prop}
theorem g_shr6 (x : Operand) (p r : Int) (hx : a.eval x = .int .u8 p) (hr : p / 64 = r) (hk : K (.int .u8 r) w) : gives Try.prog ⟨dst, .binOp .shr 5 x (.const (.int .u64 6)) 56, ty, pos, aft, gd⟩ a w K :=
  g_val (.int .u8 r) w (by simp only [execOp, hx]; go_simp) hk
theorem g_shl6 (x : Operand) (p r : Int) (hx : a.eval x = .int .i64 p) (hr : IntKind.i64.wrap (p * 64) = r) (hk : K (.int .i64 r) w) : gives Try.prog ⟨dst, .binOp .shl 3 x (.const (.int .u64 6)) 56, ty, pos, aft, gd⟩ a w K :=
  g_val (.int .i64 r) w (by simp only [execOp, hx]; go_simp) hk
theorem g_shr3 (x : Operand) (p r : Int) (hx : a.eval x = .int .u8 p) (hr : p / 8 = r) (hk : K (.int .u8 r) w) : gives Try.prog ⟨dst, .binOp .shr 5 x (.const (.int .u64 3)) 56, ty, pos, aft, gd⟩ a w K :=
  g_val (.int .u8 r) w (by simp only [execOp, hx]; go_simp) hk
theorem g_shl3 (x : Operand) (p r : Int) (hx : a.eval x = .int .i64 p) (hr : IntKind.i64.wrap (p * 8) = r) (hk : K (.int .i64 r) w) : gives Try.prog ⟨dst, .binOp .shl 3 x (.const (.int .u64 3)) 56, ty, pos, aft, gd⟩ a w K :=
  g_val (.int .i64 r) w (by simp only [execOp, hx]; go_simp) hk
theorem g_and7 (x : Operand) (p r : Int) (hx : a.eval x = .int .u8 p) (hr : bits .and .u8 p 7 = r) (hk : K (.int .u8 r) w) : gives Try.prog ⟨dst, .binOp .and 5 x (.const (.int .u8 7)) 5, ty, pos, aft, gd⟩ a w K :=
  g_val (.int .u8 r) w (by simp only [execOp, hx]; go_simp) hk
theorem g_or (x y : Operand) (p q r : Int) (hx : a.eval x = .int .i64 p) (hy : a.eval y = .int .i64 q) (hr : bits .or .i64 p q = r) (hk : K (.int .i64 r) w) : gives Try.prog ⟨dst, .binOp .or 3 x y 3, ty, pos, aft, gd⟩ a w K :=
  g_val (.int .i64 r) w (by simp only [execOp, hx, hy]; go_simp) hk
theorem g_quo8 (x y : Operand) (p q r : Int) (hx : a.eval x = .int .u8 p) (hy : a.eval y = .int .u8 q) (hq : q ≠ 0) (hr : IntKind.u8.wrap (p.tdiv q) = r) (hk : K (.int .u8 r) w) : gives P ⟨dst, .binOp .quo 5 x y 5, ty, pos, aft, gd⟩ a w K :=
  g_val (.int .u8 r) w (by simp [execOp, hx, hy, eqGuard, binOp, Op.intDiv, hr, hq]) hk
theorem g_bH (x0 x1 x2 x3 x4 x5 : Operand) (v0 v1 v2 v3 v4 v5 : Int) (h0 : a.eval x0 = .int .i64 v0) (h1 : a.eval x1 = .int .i64 v1) (h2 : a.eval x2 = .int .i64 v2) (h3 : a.eval x3 = .int .i64 v3) (h4 : a.eval x4 = .int .i64 v4) (h5 : a.eval x5 = .int .i64 v5) (hk : K (.agg (hc ⟨v0, v1, v2, v3, v4, v5, 0, 0, 0, 0, 0, 0, 0⟩).toArray) w) : gives Try.prog ⟨dst, .build 26 #[(0, x0), (1, x1), (2, x2), (3, x3), (4, x4), (5, x5)], ty, pos, aft, gd⟩ a w K :=
  g_val _ w (by simp only [execOp, h0, h1, h2, h3, h4, h5, List.map_toArray, List.map_cons, List.map_nil]; go_simp; rfl) hk
theorem g_nilc (x : Operand) (p : Addr) (hx : a.eval x = .pointer (some p)) (hk : K (.pointer (some p)) w) : gives Try.prog ⟨dst, .nilCheck x, ty, pos, aft, gd⟩ a w K :=
  g_val _ w (by simp only [execOp, hx]; go_simp) hk
theorem at_nilD {x : Operand} (d : Tmp) (h : wpList P ops Q (⟨some d, .nilCheck x, ty, pos, aft, gd⟩ :: rest) a w) : wpList P ops Q (⟨some d, .nilCheck x, ty, pos, aft, gd⟩ :: rest) a w := h
theorem g_idxA (x y : Operand) (t e : TypeId) (n k : Nat) (i : Int) (cs : List Value) (v : Value) (hu : P.underlying t = some (.array n e)) (ha : ∀ w, (isAgg e).run P w = .ok false w) (hs : ∀ w, (sizeOf e).run P w = .ok 1 w) (hx : a.eval x = .agg cs.toArray) (hy : a.eval y = .int .i64 i) (hi : i = k) (hkn : k < n) (hv : cs[k]? = some v) (hk : K v w) : gives P ⟨dst, .index t x y, ty, pos, aft, gd⟩ a w K :=
  g_val v w (by simp only [execOp, hx, hy, Sem.run_bind, run_index_arr w t e n k i cs v hu ha hs hi hkn hv, Result.andThen_ok, Sem.run_pure]) hk
theorem g_stc22 (x y : Operand) (b o : Nat) (u v : Value) (cs : List Value) (bt : TypeId) (hx : a.eval x = .pointer (some ⟨b, o, none⟩)) (hy : a.eval y = v) (hv : ∃ k n, v = .int k n) (hb : Blk w b cs bt) (hu : cs[o]? = some u) (hk : ∀ w', Turn b w w' → Blk w' b (cs.set o v) bt → K undef w') : gives Try.prog ⟨dst, .store 22 x y, ty, pos, aft, gd⟩ a w K := by
  obtain ⟨h1, h2⟩ := turn_setCell w b o v cs bt hb
  have hc := hb.cell o u hu
  have hf := hb.frozen o
  obtain ⟨k, n, rfl⟩ := hv
  have hr : (execOp a.eval ⟨dst, .store 22 x y, ty, pos, aft, gd⟩).run Try.prog w = .ok .skip (w.setCell ⟨b, o, none⟩ (.int k n)) := by
    simp only [execOp, hx, hy]; go_simp
  unfold gives
  rw [hr]
  exact hk _ h1 h2
theorem g_stc24 (x y : Operand) (b o : Nat) (u v : Value) (cs : List Value) (bt : TypeId) (hx : a.eval x = .pointer (some ⟨b, o, none⟩)) (hy : a.eval y = v) (hv : ∃ k n, v = .int k n) (hb : Blk w b cs bt) (hu : cs[o]? = some u) (hk : ∀ w', Turn b w w' → Blk w' b (cs.set o v) bt → K undef w') : gives Try.prog ⟨dst, .store 24 x y, ty, pos, aft, gd⟩ a w K := by
  obtain ⟨h1, h2⟩ := turn_setCell w b o v cs bt hb
  have hc := hb.cell o u hu
  have hf := hb.frozen o
  obtain ⟨k, n, rfl⟩ := hv
  have hr : (execOp a.eval ⟨dst, .store 24 x y, ty, pos, aft, gd⟩).run Try.prog w = .ok .skip (w.setCell ⟨b, o, none⟩ (.int k n)) := by
    simp only [execOp, hx, hy]; go_simp
  unfold gives
  rw [hr]
  exact hk _ h1 h2
end

theorem and7 (n : Nat) (h : n < 256) : bits .and .u8 (n : Int) 7 = ((n % 8 : Nat) : Int) := by
  have k := u8_and_nat n 7 h (by decide)
  rw [show ((7 : Nat) : Int) = 7 from rfl] at k
  rw [k, show (7 : Nat) = 2 ^ 3 - 1 from rfl, Nat.and_two_pow_sub_one_eq_mod]
theorem wrap_i8 (c : UInt8) : IntKind.i8.wrap (c.toNat : Int) = sg c := by
  have := c.toNat_lt
  unfold sg
  simp [IntKind.wrap, IntKind.bits, IntKind.signed]
  split <;> omega
set_option maxRecDepth 10000 in
set_option maxHeartbeats 1000000 in
theorem take_t (s : ByteArray) (c0 c1 c2 c3 : UInt8) (le x0 ve mo st po pr d0 d1 d2 t0 t1 t2 t3 : Int) (w : World) (hs : Hid (s.size = 48)) (hc0 : s.data.toList[0]? = some c0) (hc1 : s.data.toList[1]? = some c1) (hc2 : s.data.toList[2]? = some c2) (hc3 : s.data.toList[3]? = some c3)
    (e1 : Hid ((c0.toNat : Int) / 64 = le)) (e2 : Hid (IntKind.i64.wrap le = le)) (e3 : Hid ((c0.toNat : Int) / 8 = x0)) (e4 : Hid (bits .and .u8 x0 7 = ve)) (e5 : Hid (IntKind.i64.wrap ve = ve)) (e6 : Hid (bits .and .u8 (c0.toNat : Int) 7 = mo)) (e7 : Hid (IntKind.i64.wrap mo = mo)) (e8 : Hid (IntKind.i64.wrap (c1.toNat : Int) = st))
    (e9 : Hid (IntKind.i8.wrap (c2.toNat : Int) = po)) (e10 : Hid (IntKind.i64.wrap po = po)) (e11 : Hid (IntKind.i8.wrap (c3.toNat : Int) = pr)) (e12 : Hid (IntKind.i64.wrap pr = pr))
    (m0 : Hid (((nm s.data.toList 4 4 : Nat) : Int) = d0)) (v0 : Hid (IntKind.u32.wrap d0 = d0)) (m1 : Hid (((nm s.data.toList 8 4 : Nat) : Int) = d1)) (v1 : Hid (IntKind.u32.wrap d1 = d1)) (m2 : Hid (((nm s.data.toList 12 4 : Nat) : Int) = d2)) (v2 : Hid (IntKind.u32.wrap d2 = d2)) (n0 : Hid (((nm s.data.toList 16 8 : Nat) : Int) = t0)) (n1 : Hid (((nm s.data.toList 24 8 : Nat) : Int) = t1)) (n2 : Hid (((nm s.data.toList 32 8 : Nat) : Int) = t2)) (n3 : Hid (((nm s.data.toList 40 8 : Nat) : Int) = t3)) (hm : Hid (may ⟨le, ve, mo, st, po, pr, d0, d1, d2, t0, t1, t2, t3⟩ = true)) : Calls Try.prog 14 #[.string s] w fun e w' => e = .returned (.tuple #[.agg (hc ⟨le, ve, mo, st, po, pr, d0, d1, d2, t0, t1, t2, t3⟩).toArray, .int .i64 0]) ∧ Below w.heap.size w w' := by
  go_enter Try.func14, Try.ntmps14
  go_wp2_with (first
    | ((with_reducible refine at_allocD 2 26 ?_); refine L_alloc 26 (hc (hz)) zeroH ?_; intro w1 t_ b_r; have l_hB_r : w.heap.size ≤ w.heap.size := Nat.le_refl _; have hB : Below w.heap.size w w1 := t_.below (Below.refl _ _) (Nat.le_refl _); clear t_; (try simp only [Act.put, List.setIfInBounds_toArray, List.set_cons_zero, List.set_cons_succ]))
    | ((with_reducible refine at_callD 10 ?_); refine L_give (by rfl) (g_slen _ _ _ rfl rfl ?_); (try simp only [Act.put, List.setIfInBounds_toArray, List.set_cons_zero, List.set_cons_succ]))
    | ((with_reducible refine at_binD 11 ?_); refine L_give (by rfl) (g_ine 3 _ _ .i64 _ _ false rfl rfl (decide_eq_false (fun h => h (by have := hs.out; omega))) ?_); (try simp only [Act.put, List.setIfInBounds_toArray, List.set_cons_zero, List.set_cons_succ]))
    | (refine stop_region 3 ?_; intro X hX))
  refine hX.out ?_
  clear hX X
  refine wp_region_new (by kernel_rfl) (by kernel_rfl) 25 26 26 (hc (hz)) (hc (⟨le, ve, mo, st, po, pr, 0, 0, 0, 0, 0, 0, 0⟩)) (fun p_ => [.string (s), .int .u8 (c0.toNat), .int .u8 (le), .int .i64 (le), .string (s), .int .u8 (c0.toNat), .int .u8 (x0), .int .u8 (ve), .int .i64 (ve), .string (s), .int .u8 (c0.toNat), .int .u8 (mo), .int .i64 (mo), .string (s), .int .u8 (c1.toNat), .int .i64 (st), .string (s), .int .u8 (c2.toNat), .int .i8 (po), .int .i64 (po), .string (s), .int .u8 (c3.toNat), .int .i8 (pr), .int .i64 (pr), .agg (hc (⟨le, ve, mo, st, po, pr, 0, 0, 0, 0, 0, 0, 0⟩)).toArray, p_, undef]) (fun _ => by rfl) (by decide) (by decide) (by decide) ?_ (fun _ => by rfl) ?_ ?_ ?_ ?_ ?_
  · intro o ho; obtain rfl := Option.some.inj ho; exact ⟨⟨25, .data⟩, by simp, rfl, rfl⟩
  · intro p q i hi; rcases i with _ | _ | _ | _ | _ | _ | _ | _ | _ | _ | _ | _ | _ | _ | _ | _ | _ | _ | _ | _ | _ | _ | _ | _ | _ | _ | _ | i <;> first | rfl | exact absurd rfl hi
  · intro o ho a w'; obtain rfl := Option.some.inj ho; exact gw rfl (g_alloc 26 _ zeroH (fun w' h1 h2 => ⟨rfl, h1, h2⟩))
  · intro o ho p w' hb; obtain rfl := Option.some.inj ho; simp only [fullL, Act.put, List.setIfInBounds_toArray, List.set_cons_succ, List.set_cons_zero]; exact gw rfl (g_store_all 26 _ _ p (hc (⟨le, ve, mo, st, po, pr, 0, 0, 0, 0, 0, 0, 0⟩)) _ 26 rfl rfl hb (szH hz) rfl (one_hc _) (fun w' h1 h2 => ⟨rfl, h1, h2⟩))
  · simp only [fullL, Act.put, List.setIfInBounds_toArray, List.set_cons_succ, List.set_cons_zero]
    intro i o ho hA hS p_ wx hw
    rcases i with _ | _ | _ | _ | _ | _ | _ | _ | _ | _ | _ | _ | _ | _ | _ | _ | _ | _ | _ | _ | _ | _ | _ | _ | _ | _ | _ | i
    · obtain rfl := Option.some.inj ho; exact gw rfl (g_move _ _ rfl ⟨rfl, Below.refl _ _⟩)
    · obtain rfl := Option.some.inj ho; exact gw rfl (g_sidx _ _ s 0 _ c0 rfl rfl rfl hc0 ⟨rfl, Below.refl _ _⟩)
    · obtain rfl := Option.some.inj ho; exact gw rfl (g_shr6 _ _ _ rfl e1.out ⟨rfl, Below.refl _ _⟩)
    · obtain rfl := Option.some.inj ho; exact gw rfl (g_cv_5_3 _ _ _ rfl e2.out ⟨rfl, Below.refl _ _⟩)
    · obtain rfl := Option.some.inj ho; exact gw rfl (g_move _ _ rfl ⟨rfl, Below.refl _ _⟩)
    · obtain rfl := Option.some.inj ho; exact gw rfl (g_sidx _ _ s 0 _ c0 rfl rfl rfl hc0 ⟨rfl, Below.refl _ _⟩)
    · obtain rfl := Option.some.inj ho; exact gw rfl (g_shr3 _ _ _ rfl e3.out ⟨rfl, Below.refl _ _⟩)
    · obtain rfl := Option.some.inj ho; exact gw rfl (g_and7 _ _ _ rfl e4.out ⟨rfl, Below.refl _ _⟩)
    · obtain rfl := Option.some.inj ho; exact gw rfl (g_cv_5_3 _ _ _ rfl e5.out ⟨rfl, Below.refl _ _⟩)
    · obtain rfl := Option.some.inj ho; exact gw rfl (g_move _ _ rfl ⟨rfl, Below.refl _ _⟩)
    · obtain rfl := Option.some.inj ho; exact gw rfl (g_sidx _ _ s 0 _ c0 rfl rfl rfl hc0 ⟨rfl, Below.refl _ _⟩)
    · obtain rfl := Option.some.inj ho; exact gw rfl (g_and7 _ _ _ rfl e6.out ⟨rfl, Below.refl _ _⟩)
    · obtain rfl := Option.some.inj ho; exact gw rfl (g_cv_5_3 _ _ _ rfl e7.out ⟨rfl, Below.refl _ _⟩)
    · obtain rfl := Option.some.inj ho; exact gw rfl (g_move _ _ rfl ⟨rfl, Below.refl _ _⟩)
    · obtain rfl := Option.some.inj ho; exact gw rfl (g_sidx _ _ s 1 _ c1 rfl rfl rfl hc1 ⟨rfl, Below.refl _ _⟩)
    · obtain rfl := Option.some.inj ho; exact gw rfl (g_cv_5_3 _ _ _ rfl e8.out ⟨rfl, Below.refl _ _⟩)
    · obtain rfl := Option.some.inj ho; exact gw rfl (g_move _ _ rfl ⟨rfl, Below.refl _ _⟩)
    · obtain rfl := Option.some.inj ho; exact gw rfl (g_sidx _ _ s 2 _ c2 rfl rfl rfl hc2 ⟨rfl, Below.refl _ _⟩)
    · obtain rfl := Option.some.inj ho; exact gw rfl (g_cv_5_71 _ _ _ rfl e9.out ⟨rfl, Below.refl _ _⟩)
    · obtain rfl := Option.some.inj ho; exact gw rfl (g_cv_71_3 _ _ _ rfl e10.out ⟨rfl, Below.refl _ _⟩)
    · obtain rfl := Option.some.inj ho; exact gw rfl (g_move _ _ rfl ⟨rfl, Below.refl _ _⟩)
    · obtain rfl := Option.some.inj ho; exact gw rfl (g_sidx _ _ s 3 _ c3 rfl rfl rfl hc3 ⟨rfl, Below.refl _ _⟩)
    · obtain rfl := Option.some.inj ho; exact gw rfl (g_cv_5_71 _ _ _ rfl e11.out ⟨rfl, Below.refl _ _⟩)
    · obtain rfl := Option.some.inj ho; exact gw rfl (g_cv_71_3 _ _ _ rfl e12.out ⟨rfl, Below.refl _ _⟩)
    · obtain rfl := Option.some.inj ho; exact gw rfl (g_bH _ _ _ _ _ _ le ve mo st po pr rfl rfl rfl rfl rfl rfl ⟨rfl, Below.refl _ _⟩)
    · exact absurd rfl hA
    · exact absurd rfl hS
    · simp at ho
  · simp only [fullL, Act.put, List.setIfInBounds_toArray, List.set_cons_succ, List.set_cons_zero]
    intro p_h w2 t_ lp_h b_h
    have o_r_h : w.heap.size < p_h := Nat.lt_of_lt_of_le b_r.lt lp_h
    have l_hB_h : _ ≤ p_h := Nat.le_trans hB.size lp_h
    replace b_r := b_r.below t_ b_r.lt
    replace hB := hB.trans (t_.mono hB.size)
    clear t_
    go_wp2_with (first
      | ((with_reducible refine at_callD 38 ?_); refine L_give (by rfl) (g_call 27 _ _ [.pointer (some ⟨p_h, 0, none⟩)] (kf27 _ _) rfl ((words_any _ w2).mono ?_)); rintro e w3 ⟨rfl, t_⟩; refine ⟨_, rfl, ?_⟩; replace b_r := b_r.below t_ b_r.lt; replace b_h := b_h.below t_ b_h.lt; replace hB := hB.trans (t_.mono hB.size); clear t_; (try simp only [Act.put, List.setIfInBounds_toArray, List.set_cons_zero, List.set_cons_succ])))
    go_loopw [39] (fun i wr => ∃ G : Hd, ((i = .int .i64 0 ∧ G = ⟨le, ve, mo, st, po, pr, 0, 0, 0, 0, 0, 0, 0⟩) ∨ (i = .int .i64 1 ∧ G = ⟨le, ve, mo, st, po, pr, d0, 0, 0, 0, 0, 0, 0⟩) ∨ (i = .int .i64 2 ∧ G = ⟨le, ve, mo, st, po, pr, d0, d1, 0, 0, 0, 0, 0⟩) ∨ (i = .int .i64 3 ∧ G = ⟨le, ve, mo, st, po, pr, d0, d1, d2, 0, 0, 0, 0⟩)) ∧ Blk wr p_h (hc G) 26 ∧ Blk wr w.heap.size (hc hz) 26 ∧ Below w.heap.size w wr) (fun i _ => 3 - (intOf i).toNat)
    case atStart => exact ⟨_, Or.inl ⟨rfl, rfl⟩, b_h, b_r, hB⟩
    case round =>
      clear b_h b_r hB
      obtain ⟨G, hk, b_h, b_r, hB⟩ := hrel
      rcases hk with ⟨rfl, rfl⟩ | ⟨rfl, rfl⟩ | ⟨rfl, rfl⟩ | ⟨rfl, rfl⟩
      · go_wp2_with (first
          | ((with_reducible refine at_binD 40 ?_); refine L_give (by rfl) (g_ilss 3 _ _ .i64 _ _ true rfl rfl (by decide) ?_); (try simp only [Act.put, List.setIfInBounds_toArray, List.set_cons_zero, List.set_cons_succ]))
          | ((with_reducible refine at_idxD 42 ?_); refine L_give (by rfl) (g_idxA _ _ 64 63 3 0 _ ([.pointer (some ⟨p_h, 6, none⟩), .pointer (some ⟨p_h, 7, none⟩), .pointer (some ⟨p_h, 8, none⟩)]) (.pointer (some ⟨p_h, 6, none⟩)) Try.underlying64 Try.isAgg63 Try.sizeOf63 rfl rfl rfl (by decide) rfl ?_); (try simp only [Act.put, List.setIfInBounds_toArray, List.set_cons_zero, List.set_cons_succ]))
          | ((with_reducible refine at_binD 46 ?_); refine L_give (by rfl) (g_imul 3 _ _ .i64 _ _ 0 rfl rfl (by decide) ?_); (try simp only [Act.put, List.setIfInBounds_toArray, List.set_cons_zero, List.set_cons_succ]))
          | ((with_reducible refine at_binD 47 ?_); refine L_give (by rfl) (g_iadd 3 _ _ .i64 _ _ 4 rfl rfl (by decide) ?_); (try simp only [Act.put, List.setIfInBounds_toArray, List.set_cons_zero, List.set_cons_succ]))
          | ((with_reducible refine at_callD 48 ?_); refine L_give (by rfl) (g_call 31 _ _ [.string s, .int .i64 ((4 : Nat) : Int), .int .i64 ((4 : Nat) : Int)] (kf31 _ _) rfl ((number_any s 4 4 d0 _ (by have := hs.out; omega) (by have := hs.out; omega) (by omega) m0).mono ?_)); rintro e w_ ⟨rfl, hW⟩; rw [hW]; clear hW w_; refine ⟨_, rfl, ?_⟩; (try simp only [Act.put, List.setIfInBounds_toArray, List.set_cons_zero, List.set_cons_succ]))
          | ((with_reducible refine at_cnv 49 ?_); refine L_give (by rfl) (g_cv_23_22 _ _ _ rfl v0.out ?_); (try simp only [Act.put, List.setIfInBounds_toArray, List.set_cons_zero, List.set_cons_succ]))
          | ((with_reducible refine at_nilD 50 ?_); refine L_give (by rfl) (g_nilc _ _ rfl ?_); (try simp only [Act.put, List.setIfInBounds_toArray, List.set_cons_zero, List.set_cons_succ]))
          | ((with_reducible refine at_storeX 50 22 ?_); refine L_give (by rfl) (g_stc22 _ _ p_h 6 (.int .u32 0) (.int .u32 d0) (hc ⟨le, ve, mo, st, po, pr, 0, 0, 0, 0, 0, 0, 0⟩) 26 rfl rfl ⟨_, _, rfl⟩ b_h rfl ?_); intro wn t_ b2; clear b_h; replace b_h : Blk wn p_h (hc ⟨le, ve, mo, st, po, pr, d0, 0, 0, 0, 0, 0, 0⟩) 26 := b2; clear b2; replace b_r := t_.blk b_r (Nat.ne_of_lt o_r_h); replace hB := t_.below hB l_hB_h; clear t_))
        go_roundw
        case rel => exact ⟨_, Or.inr (Or.inl ⟨rfl, rfl⟩), b_h, b_r, hB⟩
        case measure => simp [intOf]
      · go_wp2_with (first
          | ((with_reducible refine at_binD 40 ?_); refine L_give (by rfl) (g_ilss 3 _ _ .i64 _ _ true rfl rfl (by decide) ?_); (try simp only [Act.put, List.setIfInBounds_toArray, List.set_cons_zero, List.set_cons_succ]))
          | ((with_reducible refine at_idxD 42 ?_); refine L_give (by rfl) (g_idxA _ _ 64 63 3 1 _ ([.pointer (some ⟨p_h, 6, none⟩), .pointer (some ⟨p_h, 7, none⟩), .pointer (some ⟨p_h, 8, none⟩)]) (.pointer (some ⟨p_h, 7, none⟩)) Try.underlying64 Try.isAgg63 Try.sizeOf63 rfl rfl rfl (by decide) rfl ?_); (try simp only [Act.put, List.setIfInBounds_toArray, List.set_cons_zero, List.set_cons_succ]))
          | ((with_reducible refine at_binD 46 ?_); refine L_give (by rfl) (g_imul 3 _ _ .i64 _ _ 4 rfl rfl (by decide) ?_); (try simp only [Act.put, List.setIfInBounds_toArray, List.set_cons_zero, List.set_cons_succ]))
          | ((with_reducible refine at_binD 47 ?_); refine L_give (by rfl) (g_iadd 3 _ _ .i64 _ _ 8 rfl rfl (by decide) ?_); (try simp only [Act.put, List.setIfInBounds_toArray, List.set_cons_zero, List.set_cons_succ]))
          | ((with_reducible refine at_callD 48 ?_); refine L_give (by rfl) (g_call 31 _ _ [.string s, .int .i64 ((8 : Nat) : Int), .int .i64 ((4 : Nat) : Int)] (kf31 _ _) rfl ((number_any s 8 4 d1 _ (by have := hs.out; omega) (by have := hs.out; omega) (by omega) m1).mono ?_)); rintro e w_ ⟨rfl, hW⟩; rw [hW]; clear hW w_; refine ⟨_, rfl, ?_⟩; (try simp only [Act.put, List.setIfInBounds_toArray, List.set_cons_zero, List.set_cons_succ]))
          | ((with_reducible refine at_cnv 49 ?_); refine L_give (by rfl) (g_cv_23_22 _ _ _ rfl v1.out ?_); (try simp only [Act.put, List.setIfInBounds_toArray, List.set_cons_zero, List.set_cons_succ]))
          | ((with_reducible refine at_nilD 50 ?_); refine L_give (by rfl) (g_nilc _ _ rfl ?_); (try simp only [Act.put, List.setIfInBounds_toArray, List.set_cons_zero, List.set_cons_succ]))
          | ((with_reducible refine at_storeX 50 22 ?_); refine L_give (by rfl) (g_stc22 _ _ p_h 7 (.int .u32 0) (.int .u32 d1) (hc ⟨le, ve, mo, st, po, pr, d0, 0, 0, 0, 0, 0, 0⟩) 26 rfl rfl ⟨_, _, rfl⟩ b_h rfl ?_); intro wn t_ b2; clear b_h; replace b_h : Blk wn p_h (hc ⟨le, ve, mo, st, po, pr, d0, d1, 0, 0, 0, 0, 0⟩) 26 := b2; clear b2; replace b_r := t_.blk b_r (Nat.ne_of_lt o_r_h); replace hB := t_.below hB l_hB_h; clear t_))
        go_roundw
        case rel => exact ⟨_, Or.inr (Or.inr (Or.inl ⟨rfl, rfl⟩)), b_h, b_r, hB⟩
        case measure => simp [intOf]
      · go_wp2_with (first
          | ((with_reducible refine at_binD 40 ?_); refine L_give (by rfl) (g_ilss 3 _ _ .i64 _ _ true rfl rfl (by decide) ?_); (try simp only [Act.put, List.setIfInBounds_toArray, List.set_cons_zero, List.set_cons_succ]))
          | ((with_reducible refine at_idxD 42 ?_); refine L_give (by rfl) (g_idxA _ _ 64 63 3 2 _ ([.pointer (some ⟨p_h, 6, none⟩), .pointer (some ⟨p_h, 7, none⟩), .pointer (some ⟨p_h, 8, none⟩)]) (.pointer (some ⟨p_h, 8, none⟩)) Try.underlying64 Try.isAgg63 Try.sizeOf63 rfl rfl rfl (by decide) rfl ?_); (try simp only [Act.put, List.setIfInBounds_toArray, List.set_cons_zero, List.set_cons_succ]))
          | ((with_reducible refine at_binD 46 ?_); refine L_give (by rfl) (g_imul 3 _ _ .i64 _ _ 8 rfl rfl (by decide) ?_); (try simp only [Act.put, List.setIfInBounds_toArray, List.set_cons_zero, List.set_cons_succ]))
          | ((with_reducible refine at_binD 47 ?_); refine L_give (by rfl) (g_iadd 3 _ _ .i64 _ _ 12 rfl rfl (by decide) ?_); (try simp only [Act.put, List.setIfInBounds_toArray, List.set_cons_zero, List.set_cons_succ]))
          | ((with_reducible refine at_callD 48 ?_); refine L_give (by rfl) (g_call 31 _ _ [.string s, .int .i64 ((12 : Nat) : Int), .int .i64 ((4 : Nat) : Int)] (kf31 _ _) rfl ((number_any s 12 4 d2 _ (by have := hs.out; omega) (by have := hs.out; omega) (by omega) m2).mono ?_)); rintro e w_ ⟨rfl, hW⟩; rw [hW]; clear hW w_; refine ⟨_, rfl, ?_⟩; (try simp only [Act.put, List.setIfInBounds_toArray, List.set_cons_zero, List.set_cons_succ]))
          | ((with_reducible refine at_cnv 49 ?_); refine L_give (by rfl) (g_cv_23_22 _ _ _ rfl v2.out ?_); (try simp only [Act.put, List.setIfInBounds_toArray, List.set_cons_zero, List.set_cons_succ]))
          | ((with_reducible refine at_nilD 50 ?_); refine L_give (by rfl) (g_nilc _ _ rfl ?_); (try simp only [Act.put, List.setIfInBounds_toArray, List.set_cons_zero, List.set_cons_succ]))
          | ((with_reducible refine at_storeX 50 22 ?_); refine L_give (by rfl) (g_stc22 _ _ p_h 8 (.int .u32 0) (.int .u32 d2) (hc ⟨le, ve, mo, st, po, pr, d0, d1, 0, 0, 0, 0, 0⟩) 26 rfl rfl ⟨_, _, rfl⟩ b_h rfl ?_); intro wn t_ b2; clear b_h; replace b_h : Blk wn p_h (hc ⟨le, ve, mo, st, po, pr, d0, d1, d2, 0, 0, 0, 0⟩) 26 := b2; clear b2; replace b_r := t_.blk b_r (Nat.ne_of_lt o_r_h); replace hB := t_.below hB l_hB_h; clear t_))
        go_roundw
        case rel => exact ⟨_, Or.inr (Or.inr (Or.inr (⟨rfl, rfl⟩))), b_h, b_r, hB⟩
        case measure => simp [intOf]
      · skip
        go_wp2_with (first
          | ((with_reducible refine at_binD 40 ?_); refine L_give (by rfl) (g_ilss 3 _ _ .i64 _ _ false rfl rfl (by decide) ?_))
          | ((with_reducible refine at_callD 52 ?_); refine L_give (by rfl) (g_call 28 _ _ [.pointer (some ⟨p_h, 0, none⟩)] (kf28 _ _) rfl ((stamps_any _ wr).mono ?_)); rintro e w201 ⟨rfl, t_⟩; refine ⟨_, rfl, ?_⟩; replace b_r := b_r.below t_ b_r.lt; replace b_h := b_h.below t_ b_h.lt; replace hB := hB.trans (t_.mono hB.size); clear t_; (try simp only [Act.put, List.setIfInBounds_toArray, List.set_cons_zero, List.set_cons_succ])))
        go_loopw [53] (fun i wr => ∃ G : Hd, ((i = .int .i64 0 ∧ G = ⟨le, ve, mo, st, po, pr, d0, d1, d2, 0, 0, 0, 0⟩) ∨ (i = .int .i64 1 ∧ G = ⟨le, ve, mo, st, po, pr, d0, d1, d2, t0, 0, 0, 0⟩) ∨ (i = .int .i64 2 ∧ G = ⟨le, ve, mo, st, po, pr, d0, d1, d2, t0, t1, 0, 0⟩) ∨ (i = .int .i64 3 ∧ G = ⟨le, ve, mo, st, po, pr, d0, d1, d2, t0, t1, t2, 0⟩) ∨ (i = .int .i64 4 ∧ G = ⟨le, ve, mo, st, po, pr, d0, d1, d2, t0, t1, t2, t3⟩)) ∧ Blk wr p_h (hc G) 26 ∧ Blk wr w.heap.size (hc hz) 26 ∧ Below w.heap.size w wr) (fun i _ => 4 - (intOf i).toNat)
        case atStart => exact ⟨_, Or.inl ⟨rfl, rfl⟩, b_h, b_r, hB⟩
        case round =>
          clear b_h b_r hB
          obtain ⟨G, hk, b_h, b_r, hB⟩ := hrel
          rcases hk with ⟨rfl, rfl⟩ | ⟨rfl, rfl⟩ | ⟨rfl, rfl⟩ | ⟨rfl, rfl⟩ | ⟨rfl, rfl⟩
          · go_wp2_with (first
              | ((with_reducible refine at_binD 54 ?_); refine L_give (by rfl) (g_ilss 3 _ _ .i64 _ _ true rfl rfl (by decide) ?_); (try simp only [Act.put, List.setIfInBounds_toArray, List.set_cons_zero, List.set_cons_succ]))
              | ((with_reducible refine at_idxD 56 ?_); refine L_give (by rfl) (g_idxA _ _ 68 67 4 0 _ ([.pointer (some ⟨p_h, 9, none⟩), .pointer (some ⟨p_h, 10, none⟩), .pointer (some ⟨p_h, 11, none⟩), .pointer (some ⟨p_h, 12, none⟩)]) (.pointer (some ⟨p_h, 9, none⟩)) Try.underlying68 Try.isAgg67 Try.sizeOf67 rfl rfl rfl (by decide) rfl ?_); (try simp only [Act.put, List.setIfInBounds_toArray, List.set_cons_zero, List.set_cons_succ]))
              | ((with_reducible refine at_binD 60 ?_); refine L_give (by rfl) (g_imul 3 _ _ .i64 _ _ 0 rfl rfl (by decide) ?_); (try simp only [Act.put, List.setIfInBounds_toArray, List.set_cons_zero, List.set_cons_succ]))
              | ((with_reducible refine at_binD 61 ?_); refine L_give (by rfl) (g_iadd 3 _ _ .i64 _ _ 16 rfl rfl (by decide) ?_); (try simp only [Act.put, List.setIfInBounds_toArray, List.set_cons_zero, List.set_cons_succ]))
              | ((with_reducible refine at_callD 62 ?_); refine L_give (by rfl) (g_call 31 _ _ [.string s, .int .i64 ((16 : Nat) : Int), .int .i64 ((8 : Nat) : Int)] (kf31 _ _) rfl ((number_any s 16 8 t0 _ (by have := hs.out; omega) (by have := hs.out; omega) (by omega) n0).mono ?_)); rintro e w_ ⟨rfl, hW⟩; rw [hW]; clear hW w_; refine ⟨_, rfl, ?_⟩; (try simp only [Act.put, List.setIfInBounds_toArray, List.set_cons_zero, List.set_cons_succ]))
              | ((with_reducible refine at_nilD 63 ?_); refine L_give (by rfl) (g_nilc _ _ rfl ?_); (try simp only [Act.put, List.setIfInBounds_toArray, List.set_cons_zero, List.set_cons_succ]))
              | ((with_reducible refine at_storeX 63 24 ?_); refine L_give (by rfl) (g_stc24 _ _ p_h 9 (.int .u64 0) (.int .u64 t0) (hc ⟨le, ve, mo, st, po, pr, d0, d1, d2, 0, 0, 0, 0⟩) 26 rfl rfl ⟨_, _, rfl⟩ b_h rfl ?_); intro wn t_ b2; clear b_h; replace b_h : Blk wn p_h (hc ⟨le, ve, mo, st, po, pr, d0, d1, d2, t0, 0, 0, 0⟩) 26 := b2; clear b2; replace b_r := t_.blk b_r (Nat.ne_of_lt o_r_h); replace hB := t_.below hB l_hB_h; clear t_))
            go_roundw
            case rel => exact ⟨_, Or.inr (Or.inl ⟨rfl, rfl⟩), b_h, b_r, hB⟩
            case measure => simp [intOf]
          · go_wp2_with (first
              | ((with_reducible refine at_binD 54 ?_); refine L_give (by rfl) (g_ilss 3 _ _ .i64 _ _ true rfl rfl (by decide) ?_); (try simp only [Act.put, List.setIfInBounds_toArray, List.set_cons_zero, List.set_cons_succ]))
              | ((with_reducible refine at_idxD 56 ?_); refine L_give (by rfl) (g_idxA _ _ 68 67 4 1 _ ([.pointer (some ⟨p_h, 9, none⟩), .pointer (some ⟨p_h, 10, none⟩), .pointer (some ⟨p_h, 11, none⟩), .pointer (some ⟨p_h, 12, none⟩)]) (.pointer (some ⟨p_h, 10, none⟩)) Try.underlying68 Try.isAgg67 Try.sizeOf67 rfl rfl rfl (by decide) rfl ?_); (try simp only [Act.put, List.setIfInBounds_toArray, List.set_cons_zero, List.set_cons_succ]))
              | ((with_reducible refine at_binD 60 ?_); refine L_give (by rfl) (g_imul 3 _ _ .i64 _ _ 8 rfl rfl (by decide) ?_); (try simp only [Act.put, List.setIfInBounds_toArray, List.set_cons_zero, List.set_cons_succ]))
              | ((with_reducible refine at_binD 61 ?_); refine L_give (by rfl) (g_iadd 3 _ _ .i64 _ _ 24 rfl rfl (by decide) ?_); (try simp only [Act.put, List.setIfInBounds_toArray, List.set_cons_zero, List.set_cons_succ]))
              | ((with_reducible refine at_callD 62 ?_); refine L_give (by rfl) (g_call 31 _ _ [.string s, .int .i64 ((24 : Nat) : Int), .int .i64 ((8 : Nat) : Int)] (kf31 _ _) rfl ((number_any s 24 8 t1 _ (by have := hs.out; omega) (by have := hs.out; omega) (by omega) n1).mono ?_)); rintro e w_ ⟨rfl, hW⟩; rw [hW]; clear hW w_; refine ⟨_, rfl, ?_⟩; (try simp only [Act.put, List.setIfInBounds_toArray, List.set_cons_zero, List.set_cons_succ]))
              | ((with_reducible refine at_nilD 63 ?_); refine L_give (by rfl) (g_nilc _ _ rfl ?_); (try simp only [Act.put, List.setIfInBounds_toArray, List.set_cons_zero, List.set_cons_succ]))
              | ((with_reducible refine at_storeX 63 24 ?_); refine L_give (by rfl) (g_stc24 _ _ p_h 10 (.int .u64 0) (.int .u64 t1) (hc ⟨le, ve, mo, st, po, pr, d0, d1, d2, t0, 0, 0, 0⟩) 26 rfl rfl ⟨_, _, rfl⟩ b_h rfl ?_); intro wn t_ b2; clear b_h; replace b_h : Blk wn p_h (hc ⟨le, ve, mo, st, po, pr, d0, d1, d2, t0, t1, 0, 0⟩) 26 := b2; clear b2; replace b_r := t_.blk b_r (Nat.ne_of_lt o_r_h); replace hB := t_.below hB l_hB_h; clear t_))
            go_roundw
            case rel => exact ⟨_, Or.inr (Or.inr (Or.inl ⟨rfl, rfl⟩)), b_h, b_r, hB⟩
            case measure => simp [intOf]
          · go_wp2_with (first
              | ((with_reducible refine at_binD 54 ?_); refine L_give (by rfl) (g_ilss 3 _ _ .i64 _ _ true rfl rfl (by decide) ?_); (try simp only [Act.put, List.setIfInBounds_toArray, List.set_cons_zero, List.set_cons_succ]))
              | ((with_reducible refine at_idxD 56 ?_); refine L_give (by rfl) (g_idxA _ _ 68 67 4 2 _ ([.pointer (some ⟨p_h, 9, none⟩), .pointer (some ⟨p_h, 10, none⟩), .pointer (some ⟨p_h, 11, none⟩), .pointer (some ⟨p_h, 12, none⟩)]) (.pointer (some ⟨p_h, 11, none⟩)) Try.underlying68 Try.isAgg67 Try.sizeOf67 rfl rfl rfl (by decide) rfl ?_); (try simp only [Act.put, List.setIfInBounds_toArray, List.set_cons_zero, List.set_cons_succ]))
              | ((with_reducible refine at_binD 60 ?_); refine L_give (by rfl) (g_imul 3 _ _ .i64 _ _ 16 rfl rfl (by decide) ?_); (try simp only [Act.put, List.setIfInBounds_toArray, List.set_cons_zero, List.set_cons_succ]))
              | ((with_reducible refine at_binD 61 ?_); refine L_give (by rfl) (g_iadd 3 _ _ .i64 _ _ 32 rfl rfl (by decide) ?_); (try simp only [Act.put, List.setIfInBounds_toArray, List.set_cons_zero, List.set_cons_succ]))
              | ((with_reducible refine at_callD 62 ?_); refine L_give (by rfl) (g_call 31 _ _ [.string s, .int .i64 ((32 : Nat) : Int), .int .i64 ((8 : Nat) : Int)] (kf31 _ _) rfl ((number_any s 32 8 t2 _ (by have := hs.out; omega) (by have := hs.out; omega) (by omega) n2).mono ?_)); rintro e w_ ⟨rfl, hW⟩; rw [hW]; clear hW w_; refine ⟨_, rfl, ?_⟩; (try simp only [Act.put, List.setIfInBounds_toArray, List.set_cons_zero, List.set_cons_succ]))
              | ((with_reducible refine at_nilD 63 ?_); refine L_give (by rfl) (g_nilc _ _ rfl ?_); (try simp only [Act.put, List.setIfInBounds_toArray, List.set_cons_zero, List.set_cons_succ]))
              | ((with_reducible refine at_storeX 63 24 ?_); refine L_give (by rfl) (g_stc24 _ _ p_h 11 (.int .u64 0) (.int .u64 t2) (hc ⟨le, ve, mo, st, po, pr, d0, d1, d2, t0, t1, 0, 0⟩) 26 rfl rfl ⟨_, _, rfl⟩ b_h rfl ?_); intro wn t_ b2; clear b_h; replace b_h : Blk wn p_h (hc ⟨le, ve, mo, st, po, pr, d0, d1, d2, t0, t1, t2, 0⟩) 26 := b2; clear b2; replace b_r := t_.blk b_r (Nat.ne_of_lt o_r_h); replace hB := t_.below hB l_hB_h; clear t_))
            go_roundw
            case rel => exact ⟨_, Or.inr (Or.inr (Or.inr (Or.inl ⟨rfl, rfl⟩))), b_h, b_r, hB⟩
            case measure => simp [intOf]
          · go_wp2_with (first
              | ((with_reducible refine at_binD 54 ?_); refine L_give (by rfl) (g_ilss 3 _ _ .i64 _ _ true rfl rfl (by decide) ?_); (try simp only [Act.put, List.setIfInBounds_toArray, List.set_cons_zero, List.set_cons_succ]))
              | ((with_reducible refine at_idxD 56 ?_); refine L_give (by rfl) (g_idxA _ _ 68 67 4 3 _ ([.pointer (some ⟨p_h, 9, none⟩), .pointer (some ⟨p_h, 10, none⟩), .pointer (some ⟨p_h, 11, none⟩), .pointer (some ⟨p_h, 12, none⟩)]) (.pointer (some ⟨p_h, 12, none⟩)) Try.underlying68 Try.isAgg67 Try.sizeOf67 rfl rfl rfl (by decide) rfl ?_); (try simp only [Act.put, List.setIfInBounds_toArray, List.set_cons_zero, List.set_cons_succ]))
              | ((with_reducible refine at_binD 60 ?_); refine L_give (by rfl) (g_imul 3 _ _ .i64 _ _ 24 rfl rfl (by decide) ?_); (try simp only [Act.put, List.setIfInBounds_toArray, List.set_cons_zero, List.set_cons_succ]))
              | ((with_reducible refine at_binD 61 ?_); refine L_give (by rfl) (g_iadd 3 _ _ .i64 _ _ 40 rfl rfl (by decide) ?_); (try simp only [Act.put, List.setIfInBounds_toArray, List.set_cons_zero, List.set_cons_succ]))
              | ((with_reducible refine at_callD 62 ?_); refine L_give (by rfl) (g_call 31 _ _ [.string s, .int .i64 ((40 : Nat) : Int), .int .i64 ((8 : Nat) : Int)] (kf31 _ _) rfl ((number_any s 40 8 t3 _ (by have := hs.out; omega) (by have := hs.out; omega) (by omega) n3).mono ?_)); rintro e w_ ⟨rfl, hW⟩; rw [hW]; clear hW w_; refine ⟨_, rfl, ?_⟩; (try simp only [Act.put, List.setIfInBounds_toArray, List.set_cons_zero, List.set_cons_succ]))
              | ((with_reducible refine at_nilD 63 ?_); refine L_give (by rfl) (g_nilc _ _ rfl ?_); (try simp only [Act.put, List.setIfInBounds_toArray, List.set_cons_zero, List.set_cons_succ]))
              | ((with_reducible refine at_storeX 63 24 ?_); refine L_give (by rfl) (g_stc24 _ _ p_h 12 (.int .u64 0) (.int .u64 t3) (hc ⟨le, ve, mo, st, po, pr, d0, d1, d2, t0, t1, t2, 0⟩) 26 rfl rfl ⟨_, _, rfl⟩ b_h rfl ?_); intro wn t_ b2; clear b_h; replace b_h : Blk wn p_h (hc ⟨le, ve, mo, st, po, pr, d0, d1, d2, t0, t1, t2, t3⟩) 26 := b2; clear b2; replace b_r := t_.blk b_r (Nat.ne_of_lt o_r_h); replace hB := t_.below hB l_hB_h; clear t_))
            go_roundw
            case rel => exact ⟨_, Or.inr (Or.inr (Or.inr (Or.inr (⟨rfl, rfl⟩)))), b_h, b_r, hB⟩
            case measure => simp [intOf]
          · skip
            go_wp2_with (first
              | ((with_reducible refine at_binD 54 ?_); refine L_give (by rfl) (g_ilss 3 _ _ .i64 _ _ false rfl rfl (by decide) ?_))
              | ((with_reducible refine at_loadD 65 26 ?_); refine L_give (by rfl) (g_load_all 26 _ (p_h) (hc ⟨le, ve, mo, st, po, pr, d0, d1, d2, t0, t1, t2, t3⟩) 26 _ rfl (b_h) Try.underlying26 rfl (szH hz) ?_); (try simp only [Act.put, List.setIfInBounds_toArray, List.set_cons_zero, List.set_cons_succ]))
              | ((with_reducible refine at_callD 66 ?_); refine L_give (by rfl) (g_call 16 _ _ [.agg (hc (⟨le, ve, mo, st, po, pr, d0, d1, d2, t0, t1, t2, t3⟩)).toArray] (kf16 _ _) rfl ((may_any ⟨le, ve, mo, st, po, pr, d0, d1, d2, t0, t1, t2, t3⟩ true wr hm).mono ?_)); rintro e w301 ⟨rfl, t_⟩; refine ⟨_, rfl, ?_⟩; replace b_r := b_r.below t_ b_r.lt; replace b_h := b_h.below t_ b_h.lt; replace hB := hB.trans (t_.mono hB.size); clear t_; (try simp only [Act.put, List.setIfInBounds_toArray, List.set_cons_zero, List.set_cons_succ]))
              | ((with_reducible refine at_loadD 69 26 ?_); refine L_give (by rfl) (g_load_all 26 _ (p_h) (hc ⟨le, ve, mo, st, po, pr, d0, d1, d2, t0, t1, t2, t3⟩) 26 _ rfl (b_h) Try.underlying26 rfl (szH hz) ?_); (try simp only [Act.put, List.setIfInBounds_toArray, List.set_cons_zero, List.set_cons_succ]))
              | ((with_reducible refine at_storeX 2 26 ?_); refine L_store_all 26 _ _ (w.heap.size) (hc (⟨le, ve, mo, st, po, pr, d0, d1, d2, t0, t1, t2, t3⟩)) _ 26 rfl rfl b_r (szH hz) rfl (one_hc _) ?_; clear b_r; intro w302 t_ b_r; replace b_h := t_.blk b_h (Nat.ne_of_gt o_r_h); replace hB := t_.below hB l_hB_r; clear t_))
            exact bodyPost_ret (results_blk_tmp rfl _ (hc ⟨le, ve, mo, st, po, pr, d0, d1, d2, t0, t1, t2, t3⟩) (.int .i64 0) _ rfl rfl b_r Try.underlying26 rfl (szH hz)) rfl ⟨rfl, hB⟩
set_option maxRecDepth 10000 in
set_option maxHeartbeats 1000000 in
theorem take_f (s : ByteArray) (c0 c1 c2 c3 : UInt8) (le x0 ve mo st po pr d0 d1 d2 t0 t1 t2 t3 : Int) (w : World) (hs : Hid (s.size = 48)) (hc0 : s.data.toList[0]? = some c0) (hc1 : s.data.toList[1]? = some c1) (hc2 : s.data.toList[2]? = some c2) (hc3 : s.data.toList[3]? = some c3)
    (e1 : Hid ((c0.toNat : Int) / 64 = le)) (e2 : Hid (IntKind.i64.wrap le = le)) (e3 : Hid ((c0.toNat : Int) / 8 = x0)) (e4 : Hid (bits .and .u8 x0 7 = ve)) (e5 : Hid (IntKind.i64.wrap ve = ve)) (e6 : Hid (bits .and .u8 (c0.toNat : Int) 7 = mo)) (e7 : Hid (IntKind.i64.wrap mo = mo)) (e8 : Hid (IntKind.i64.wrap (c1.toNat : Int) = st))
    (e9 : Hid (IntKind.i8.wrap (c2.toNat : Int) = po)) (e10 : Hid (IntKind.i64.wrap po = po)) (e11 : Hid (IntKind.i8.wrap (c3.toNat : Int) = pr)) (e12 : Hid (IntKind.i64.wrap pr = pr))
    (m0 : Hid (((nm s.data.toList 4 4 : Nat) : Int) = d0)) (v0 : Hid (IntKind.u32.wrap d0 = d0)) (m1 : Hid (((nm s.data.toList 8 4 : Nat) : Int) = d1)) (v1 : Hid (IntKind.u32.wrap d1 = d1)) (m2 : Hid (((nm s.data.toList 12 4 : Nat) : Int) = d2)) (v2 : Hid (IntKind.u32.wrap d2 = d2)) (n0 : Hid (((nm s.data.toList 16 8 : Nat) : Int) = t0)) (n1 : Hid (((nm s.data.toList 24 8 : Nat) : Int) = t1)) (n2 : Hid (((nm s.data.toList 32 8 : Nat) : Int) = t2)) (n3 : Hid (((nm s.data.toList 40 8 : Nat) : Int) = t3)) (hm : Hid (may ⟨le, ve, mo, st, po, pr, d0, d1, d2, t0, t1, t2, t3⟩ = false)) : Calls Try.prog 14 #[.string s] w fun e w' => e = .returned (.tuple #[.agg (hc hz).toArray, .int .i64 2]) ∧ Below w.heap.size w w' := by
  go_enter Try.func14, Try.ntmps14
  go_wp2_with (first
    | ((with_reducible refine at_allocD 2 26 ?_); refine L_alloc 26 (hc (hz)) zeroH ?_; intro w1 t_ b_r; have l_hB_r : w.heap.size ≤ w.heap.size := Nat.le_refl _; have hB : Below w.heap.size w w1 := t_.below (Below.refl _ _) (Nat.le_refl _); clear t_; (try simp only [Act.put, List.setIfInBounds_toArray, List.set_cons_zero, List.set_cons_succ]))
    | ((with_reducible refine at_callD 10 ?_); refine L_give (by rfl) (g_slen _ _ _ rfl rfl ?_); (try simp only [Act.put, List.setIfInBounds_toArray, List.set_cons_zero, List.set_cons_succ]))
    | ((with_reducible refine at_binD 11 ?_); refine L_give (by rfl) (g_ine 3 _ _ .i64 _ _ false rfl rfl (decide_eq_false (fun h => h (by have := hs.out; omega))) ?_); (try simp only [Act.put, List.setIfInBounds_toArray, List.set_cons_zero, List.set_cons_succ]))
    | (refine stop_region 3 ?_; intro X hX))
  refine hX.out ?_
  clear hX X
  refine wp_region_new (by kernel_rfl) (by kernel_rfl) 25 26 26 (hc (hz)) (hc (⟨le, ve, mo, st, po, pr, 0, 0, 0, 0, 0, 0, 0⟩)) (fun p_ => [.string (s), .int .u8 (c0.toNat), .int .u8 (le), .int .i64 (le), .string (s), .int .u8 (c0.toNat), .int .u8 (x0), .int .u8 (ve), .int .i64 (ve), .string (s), .int .u8 (c0.toNat), .int .u8 (mo), .int .i64 (mo), .string (s), .int .u8 (c1.toNat), .int .i64 (st), .string (s), .int .u8 (c2.toNat), .int .i8 (po), .int .i64 (po), .string (s), .int .u8 (c3.toNat), .int .i8 (pr), .int .i64 (pr), .agg (hc (⟨le, ve, mo, st, po, pr, 0, 0, 0, 0, 0, 0, 0⟩)).toArray, p_, undef]) (fun _ => by rfl) (by decide) (by decide) (by decide) ?_ (fun _ => by rfl) ?_ ?_ ?_ ?_ ?_
  · intro o ho; obtain rfl := Option.some.inj ho; exact ⟨⟨25, .data⟩, by simp, rfl, rfl⟩
  · intro p q i hi; rcases i with _ | _ | _ | _ | _ | _ | _ | _ | _ | _ | _ | _ | _ | _ | _ | _ | _ | _ | _ | _ | _ | _ | _ | _ | _ | _ | _ | i <;> first | rfl | exact absurd rfl hi
  · intro o ho a w'; obtain rfl := Option.some.inj ho; exact gw rfl (g_alloc 26 _ zeroH (fun w' h1 h2 => ⟨rfl, h1, h2⟩))
  · intro o ho p w' hb; obtain rfl := Option.some.inj ho; simp only [fullL, Act.put, List.setIfInBounds_toArray, List.set_cons_succ, List.set_cons_zero]; exact gw rfl (g_store_all 26 _ _ p (hc (⟨le, ve, mo, st, po, pr, 0, 0, 0, 0, 0, 0, 0⟩)) _ 26 rfl rfl hb (szH hz) rfl (one_hc _) (fun w' h1 h2 => ⟨rfl, h1, h2⟩))
  · simp only [fullL, Act.put, List.setIfInBounds_toArray, List.set_cons_succ, List.set_cons_zero]
    intro i o ho hA hS p_ wx hw
    rcases i with _ | _ | _ | _ | _ | _ | _ | _ | _ | _ | _ | _ | _ | _ | _ | _ | _ | _ | _ | _ | _ | _ | _ | _ | _ | _ | _ | i
    · obtain rfl := Option.some.inj ho; exact gw rfl (g_move _ _ rfl ⟨rfl, Below.refl _ _⟩)
    · obtain rfl := Option.some.inj ho; exact gw rfl (g_sidx _ _ s 0 _ c0 rfl rfl rfl hc0 ⟨rfl, Below.refl _ _⟩)
    · obtain rfl := Option.some.inj ho; exact gw rfl (g_shr6 _ _ _ rfl e1.out ⟨rfl, Below.refl _ _⟩)
    · obtain rfl := Option.some.inj ho; exact gw rfl (g_cv_5_3 _ _ _ rfl e2.out ⟨rfl, Below.refl _ _⟩)
    · obtain rfl := Option.some.inj ho; exact gw rfl (g_move _ _ rfl ⟨rfl, Below.refl _ _⟩)
    · obtain rfl := Option.some.inj ho; exact gw rfl (g_sidx _ _ s 0 _ c0 rfl rfl rfl hc0 ⟨rfl, Below.refl _ _⟩)
    · obtain rfl := Option.some.inj ho; exact gw rfl (g_shr3 _ _ _ rfl e3.out ⟨rfl, Below.refl _ _⟩)
    · obtain rfl := Option.some.inj ho; exact gw rfl (g_and7 _ _ _ rfl e4.out ⟨rfl, Below.refl _ _⟩)
    · obtain rfl := Option.some.inj ho; exact gw rfl (g_cv_5_3 _ _ _ rfl e5.out ⟨rfl, Below.refl _ _⟩)
    · obtain rfl := Option.some.inj ho; exact gw rfl (g_move _ _ rfl ⟨rfl, Below.refl _ _⟩)
    · obtain rfl := Option.some.inj ho; exact gw rfl (g_sidx _ _ s 0 _ c0 rfl rfl rfl hc0 ⟨rfl, Below.refl _ _⟩)
    · obtain rfl := Option.some.inj ho; exact gw rfl (g_and7 _ _ _ rfl e6.out ⟨rfl, Below.refl _ _⟩)
    · obtain rfl := Option.some.inj ho; exact gw rfl (g_cv_5_3 _ _ _ rfl e7.out ⟨rfl, Below.refl _ _⟩)
    · obtain rfl := Option.some.inj ho; exact gw rfl (g_move _ _ rfl ⟨rfl, Below.refl _ _⟩)
    · obtain rfl := Option.some.inj ho; exact gw rfl (g_sidx _ _ s 1 _ c1 rfl rfl rfl hc1 ⟨rfl, Below.refl _ _⟩)
    · obtain rfl := Option.some.inj ho; exact gw rfl (g_cv_5_3 _ _ _ rfl e8.out ⟨rfl, Below.refl _ _⟩)
    · obtain rfl := Option.some.inj ho; exact gw rfl (g_move _ _ rfl ⟨rfl, Below.refl _ _⟩)
    · obtain rfl := Option.some.inj ho; exact gw rfl (g_sidx _ _ s 2 _ c2 rfl rfl rfl hc2 ⟨rfl, Below.refl _ _⟩)
    · obtain rfl := Option.some.inj ho; exact gw rfl (g_cv_5_71 _ _ _ rfl e9.out ⟨rfl, Below.refl _ _⟩)
    · obtain rfl := Option.some.inj ho; exact gw rfl (g_cv_71_3 _ _ _ rfl e10.out ⟨rfl, Below.refl _ _⟩)
    · obtain rfl := Option.some.inj ho; exact gw rfl (g_move _ _ rfl ⟨rfl, Below.refl _ _⟩)
    · obtain rfl := Option.some.inj ho; exact gw rfl (g_sidx _ _ s 3 _ c3 rfl rfl rfl hc3 ⟨rfl, Below.refl _ _⟩)
    · obtain rfl := Option.some.inj ho; exact gw rfl (g_cv_5_71 _ _ _ rfl e11.out ⟨rfl, Below.refl _ _⟩)
    · obtain rfl := Option.some.inj ho; exact gw rfl (g_cv_71_3 _ _ _ rfl e12.out ⟨rfl, Below.refl _ _⟩)
    · obtain rfl := Option.some.inj ho; exact gw rfl (g_bH _ _ _ _ _ _ le ve mo st po pr rfl rfl rfl rfl rfl rfl ⟨rfl, Below.refl _ _⟩)
    · exact absurd rfl hA
    · exact absurd rfl hS
    · simp at ho
  · simp only [fullL, Act.put, List.setIfInBounds_toArray, List.set_cons_succ, List.set_cons_zero]
    intro p_h w2 t_ lp_h b_h
    have o_r_h : w.heap.size < p_h := Nat.lt_of_lt_of_le b_r.lt lp_h
    have l_hB_h : _ ≤ p_h := Nat.le_trans hB.size lp_h
    replace b_r := b_r.below t_ b_r.lt
    replace hB := hB.trans (t_.mono hB.size)
    clear t_
    go_wp2_with (first
      | ((with_reducible refine at_callD 38 ?_); refine L_give (by rfl) (g_call 27 _ _ [.pointer (some ⟨p_h, 0, none⟩)] (kf27 _ _) rfl ((words_any _ w2).mono ?_)); rintro e w3 ⟨rfl, t_⟩; refine ⟨_, rfl, ?_⟩; replace b_r := b_r.below t_ b_r.lt; replace b_h := b_h.below t_ b_h.lt; replace hB := hB.trans (t_.mono hB.size); clear t_; (try simp only [Act.put, List.setIfInBounds_toArray, List.set_cons_zero, List.set_cons_succ])))
    go_loopw [39] (fun i wr => ∃ G : Hd, ((i = .int .i64 0 ∧ G = ⟨le, ve, mo, st, po, pr, 0, 0, 0, 0, 0, 0, 0⟩) ∨ (i = .int .i64 1 ∧ G = ⟨le, ve, mo, st, po, pr, d0, 0, 0, 0, 0, 0, 0⟩) ∨ (i = .int .i64 2 ∧ G = ⟨le, ve, mo, st, po, pr, d0, d1, 0, 0, 0, 0, 0⟩) ∨ (i = .int .i64 3 ∧ G = ⟨le, ve, mo, st, po, pr, d0, d1, d2, 0, 0, 0, 0⟩)) ∧ Blk wr p_h (hc G) 26 ∧ Blk wr w.heap.size (hc hz) 26 ∧ Below w.heap.size w wr) (fun i _ => 3 - (intOf i).toNat)
    case atStart => exact ⟨_, Or.inl ⟨rfl, rfl⟩, b_h, b_r, hB⟩
    case round =>
      clear b_h b_r hB
      obtain ⟨G, hk, b_h, b_r, hB⟩ := hrel
      rcases hk with ⟨rfl, rfl⟩ | ⟨rfl, rfl⟩ | ⟨rfl, rfl⟩ | ⟨rfl, rfl⟩
      · go_wp2_with (first
          | ((with_reducible refine at_binD 40 ?_); refine L_give (by rfl) (g_ilss 3 _ _ .i64 _ _ true rfl rfl (by decide) ?_); (try simp only [Act.put, List.setIfInBounds_toArray, List.set_cons_zero, List.set_cons_succ]))
          | ((with_reducible refine at_idxD 42 ?_); refine L_give (by rfl) (g_idxA _ _ 64 63 3 0 _ ([.pointer (some ⟨p_h, 6, none⟩), .pointer (some ⟨p_h, 7, none⟩), .pointer (some ⟨p_h, 8, none⟩)]) (.pointer (some ⟨p_h, 6, none⟩)) Try.underlying64 Try.isAgg63 Try.sizeOf63 rfl rfl rfl (by decide) rfl ?_); (try simp only [Act.put, List.setIfInBounds_toArray, List.set_cons_zero, List.set_cons_succ]))
          | ((with_reducible refine at_binD 46 ?_); refine L_give (by rfl) (g_imul 3 _ _ .i64 _ _ 0 rfl rfl (by decide) ?_); (try simp only [Act.put, List.setIfInBounds_toArray, List.set_cons_zero, List.set_cons_succ]))
          | ((with_reducible refine at_binD 47 ?_); refine L_give (by rfl) (g_iadd 3 _ _ .i64 _ _ 4 rfl rfl (by decide) ?_); (try simp only [Act.put, List.setIfInBounds_toArray, List.set_cons_zero, List.set_cons_succ]))
          | ((with_reducible refine at_callD 48 ?_); refine L_give (by rfl) (g_call 31 _ _ [.string s, .int .i64 ((4 : Nat) : Int), .int .i64 ((4 : Nat) : Int)] (kf31 _ _) rfl ((number_any s 4 4 d0 _ (by have := hs.out; omega) (by have := hs.out; omega) (by omega) m0).mono ?_)); rintro e w_ ⟨rfl, hW⟩; rw [hW]; clear hW w_; refine ⟨_, rfl, ?_⟩; (try simp only [Act.put, List.setIfInBounds_toArray, List.set_cons_zero, List.set_cons_succ]))
          | ((with_reducible refine at_cnv 49 ?_); refine L_give (by rfl) (g_cv_23_22 _ _ _ rfl v0.out ?_); (try simp only [Act.put, List.setIfInBounds_toArray, List.set_cons_zero, List.set_cons_succ]))
          | ((with_reducible refine at_nilD 50 ?_); refine L_give (by rfl) (g_nilc _ _ rfl ?_); (try simp only [Act.put, List.setIfInBounds_toArray, List.set_cons_zero, List.set_cons_succ]))
          | ((with_reducible refine at_storeX 50 22 ?_); refine L_give (by rfl) (g_stc22 _ _ p_h 6 (.int .u32 0) (.int .u32 d0) (hc ⟨le, ve, mo, st, po, pr, 0, 0, 0, 0, 0, 0, 0⟩) 26 rfl rfl ⟨_, _, rfl⟩ b_h rfl ?_); intro wn t_ b2; clear b_h; replace b_h : Blk wn p_h (hc ⟨le, ve, mo, st, po, pr, d0, 0, 0, 0, 0, 0, 0⟩) 26 := b2; clear b2; replace b_r := t_.blk b_r (Nat.ne_of_lt o_r_h); replace hB := t_.below hB l_hB_h; clear t_))
        go_roundw
        case rel => exact ⟨_, Or.inr (Or.inl ⟨rfl, rfl⟩), b_h, b_r, hB⟩
        case measure => simp [intOf]
      · go_wp2_with (first
          | ((with_reducible refine at_binD 40 ?_); refine L_give (by rfl) (g_ilss 3 _ _ .i64 _ _ true rfl rfl (by decide) ?_); (try simp only [Act.put, List.setIfInBounds_toArray, List.set_cons_zero, List.set_cons_succ]))
          | ((with_reducible refine at_idxD 42 ?_); refine L_give (by rfl) (g_idxA _ _ 64 63 3 1 _ ([.pointer (some ⟨p_h, 6, none⟩), .pointer (some ⟨p_h, 7, none⟩), .pointer (some ⟨p_h, 8, none⟩)]) (.pointer (some ⟨p_h, 7, none⟩)) Try.underlying64 Try.isAgg63 Try.sizeOf63 rfl rfl rfl (by decide) rfl ?_); (try simp only [Act.put, List.setIfInBounds_toArray, List.set_cons_zero, List.set_cons_succ]))
          | ((with_reducible refine at_binD 46 ?_); refine L_give (by rfl) (g_imul 3 _ _ .i64 _ _ 4 rfl rfl (by decide) ?_); (try simp only [Act.put, List.setIfInBounds_toArray, List.set_cons_zero, List.set_cons_succ]))
          | ((with_reducible refine at_binD 47 ?_); refine L_give (by rfl) (g_iadd 3 _ _ .i64 _ _ 8 rfl rfl (by decide) ?_); (try simp only [Act.put, List.setIfInBounds_toArray, List.set_cons_zero, List.set_cons_succ]))
          | ((with_reducible refine at_callD 48 ?_); refine L_give (by rfl) (g_call 31 _ _ [.string s, .int .i64 ((8 : Nat) : Int), .int .i64 ((4 : Nat) : Int)] (kf31 _ _) rfl ((number_any s 8 4 d1 _ (by have := hs.out; omega) (by have := hs.out; omega) (by omega) m1).mono ?_)); rintro e w_ ⟨rfl, hW⟩; rw [hW]; clear hW w_; refine ⟨_, rfl, ?_⟩; (try simp only [Act.put, List.setIfInBounds_toArray, List.set_cons_zero, List.set_cons_succ]))
          | ((with_reducible refine at_cnv 49 ?_); refine L_give (by rfl) (g_cv_23_22 _ _ _ rfl v1.out ?_); (try simp only [Act.put, List.setIfInBounds_toArray, List.set_cons_zero, List.set_cons_succ]))
          | ((with_reducible refine at_nilD 50 ?_); refine L_give (by rfl) (g_nilc _ _ rfl ?_); (try simp only [Act.put, List.setIfInBounds_toArray, List.set_cons_zero, List.set_cons_succ]))
          | ((with_reducible refine at_storeX 50 22 ?_); refine L_give (by rfl) (g_stc22 _ _ p_h 7 (.int .u32 0) (.int .u32 d1) (hc ⟨le, ve, mo, st, po, pr, d0, 0, 0, 0, 0, 0, 0⟩) 26 rfl rfl ⟨_, _, rfl⟩ b_h rfl ?_); intro wn t_ b2; clear b_h; replace b_h : Blk wn p_h (hc ⟨le, ve, mo, st, po, pr, d0, d1, 0, 0, 0, 0, 0⟩) 26 := b2; clear b2; replace b_r := t_.blk b_r (Nat.ne_of_lt o_r_h); replace hB := t_.below hB l_hB_h; clear t_))
        go_roundw
        case rel => exact ⟨_, Or.inr (Or.inr (Or.inl ⟨rfl, rfl⟩)), b_h, b_r, hB⟩
        case measure => simp [intOf]
      · go_wp2_with (first
          | ((with_reducible refine at_binD 40 ?_); refine L_give (by rfl) (g_ilss 3 _ _ .i64 _ _ true rfl rfl (by decide) ?_); (try simp only [Act.put, List.setIfInBounds_toArray, List.set_cons_zero, List.set_cons_succ]))
          | ((with_reducible refine at_idxD 42 ?_); refine L_give (by rfl) (g_idxA _ _ 64 63 3 2 _ ([.pointer (some ⟨p_h, 6, none⟩), .pointer (some ⟨p_h, 7, none⟩), .pointer (some ⟨p_h, 8, none⟩)]) (.pointer (some ⟨p_h, 8, none⟩)) Try.underlying64 Try.isAgg63 Try.sizeOf63 rfl rfl rfl (by decide) rfl ?_); (try simp only [Act.put, List.setIfInBounds_toArray, List.set_cons_zero, List.set_cons_succ]))
          | ((with_reducible refine at_binD 46 ?_); refine L_give (by rfl) (g_imul 3 _ _ .i64 _ _ 8 rfl rfl (by decide) ?_); (try simp only [Act.put, List.setIfInBounds_toArray, List.set_cons_zero, List.set_cons_succ]))
          | ((with_reducible refine at_binD 47 ?_); refine L_give (by rfl) (g_iadd 3 _ _ .i64 _ _ 12 rfl rfl (by decide) ?_); (try simp only [Act.put, List.setIfInBounds_toArray, List.set_cons_zero, List.set_cons_succ]))
          | ((with_reducible refine at_callD 48 ?_); refine L_give (by rfl) (g_call 31 _ _ [.string s, .int .i64 ((12 : Nat) : Int), .int .i64 ((4 : Nat) : Int)] (kf31 _ _) rfl ((number_any s 12 4 d2 _ (by have := hs.out; omega) (by have := hs.out; omega) (by omega) m2).mono ?_)); rintro e w_ ⟨rfl, hW⟩; rw [hW]; clear hW w_; refine ⟨_, rfl, ?_⟩; (try simp only [Act.put, List.setIfInBounds_toArray, List.set_cons_zero, List.set_cons_succ]))
          | ((with_reducible refine at_cnv 49 ?_); refine L_give (by rfl) (g_cv_23_22 _ _ _ rfl v2.out ?_); (try simp only [Act.put, List.setIfInBounds_toArray, List.set_cons_zero, List.set_cons_succ]))
          | ((with_reducible refine at_nilD 50 ?_); refine L_give (by rfl) (g_nilc _ _ rfl ?_); (try simp only [Act.put, List.setIfInBounds_toArray, List.set_cons_zero, List.set_cons_succ]))
          | ((with_reducible refine at_storeX 50 22 ?_); refine L_give (by rfl) (g_stc22 _ _ p_h 8 (.int .u32 0) (.int .u32 d2) (hc ⟨le, ve, mo, st, po, pr, d0, d1, 0, 0, 0, 0, 0⟩) 26 rfl rfl ⟨_, _, rfl⟩ b_h rfl ?_); intro wn t_ b2; clear b_h; replace b_h : Blk wn p_h (hc ⟨le, ve, mo, st, po, pr, d0, d1, d2, 0, 0, 0, 0⟩) 26 := b2; clear b2; replace b_r := t_.blk b_r (Nat.ne_of_lt o_r_h); replace hB := t_.below hB l_hB_h; clear t_))
        go_roundw
        case rel => exact ⟨_, Or.inr (Or.inr (Or.inr (⟨rfl, rfl⟩))), b_h, b_r, hB⟩
        case measure => simp [intOf]
      · skip
        go_wp2_with (first
          | ((with_reducible refine at_binD 40 ?_); refine L_give (by rfl) (g_ilss 3 _ _ .i64 _ _ false rfl rfl (by decide) ?_))
          | ((with_reducible refine at_callD 52 ?_); refine L_give (by rfl) (g_call 28 _ _ [.pointer (some ⟨p_h, 0, none⟩)] (kf28 _ _) rfl ((stamps_any _ wr).mono ?_)); rintro e w201 ⟨rfl, t_⟩; refine ⟨_, rfl, ?_⟩; replace b_r := b_r.below t_ b_r.lt; replace b_h := b_h.below t_ b_h.lt; replace hB := hB.trans (t_.mono hB.size); clear t_; (try simp only [Act.put, List.setIfInBounds_toArray, List.set_cons_zero, List.set_cons_succ])))
        go_loopw [53] (fun i wr => ∃ G : Hd, ((i = .int .i64 0 ∧ G = ⟨le, ve, mo, st, po, pr, d0, d1, d2, 0, 0, 0, 0⟩) ∨ (i = .int .i64 1 ∧ G = ⟨le, ve, mo, st, po, pr, d0, d1, d2, t0, 0, 0, 0⟩) ∨ (i = .int .i64 2 ∧ G = ⟨le, ve, mo, st, po, pr, d0, d1, d2, t0, t1, 0, 0⟩) ∨ (i = .int .i64 3 ∧ G = ⟨le, ve, mo, st, po, pr, d0, d1, d2, t0, t1, t2, 0⟩) ∨ (i = .int .i64 4 ∧ G = ⟨le, ve, mo, st, po, pr, d0, d1, d2, t0, t1, t2, t3⟩)) ∧ Blk wr p_h (hc G) 26 ∧ Blk wr w.heap.size (hc hz) 26 ∧ Below w.heap.size w wr) (fun i _ => 4 - (intOf i).toNat)
        case atStart => exact ⟨_, Or.inl ⟨rfl, rfl⟩, b_h, b_r, hB⟩
        case round =>
          clear b_h b_r hB
          obtain ⟨G, hk, b_h, b_r, hB⟩ := hrel
          rcases hk with ⟨rfl, rfl⟩ | ⟨rfl, rfl⟩ | ⟨rfl, rfl⟩ | ⟨rfl, rfl⟩ | ⟨rfl, rfl⟩
          · go_wp2_with (first
              | ((with_reducible refine at_binD 54 ?_); refine L_give (by rfl) (g_ilss 3 _ _ .i64 _ _ true rfl rfl (by decide) ?_); (try simp only [Act.put, List.setIfInBounds_toArray, List.set_cons_zero, List.set_cons_succ]))
              | ((with_reducible refine at_idxD 56 ?_); refine L_give (by rfl) (g_idxA _ _ 68 67 4 0 _ ([.pointer (some ⟨p_h, 9, none⟩), .pointer (some ⟨p_h, 10, none⟩), .pointer (some ⟨p_h, 11, none⟩), .pointer (some ⟨p_h, 12, none⟩)]) (.pointer (some ⟨p_h, 9, none⟩)) Try.underlying68 Try.isAgg67 Try.sizeOf67 rfl rfl rfl (by decide) rfl ?_); (try simp only [Act.put, List.setIfInBounds_toArray, List.set_cons_zero, List.set_cons_succ]))
              | ((with_reducible refine at_binD 60 ?_); refine L_give (by rfl) (g_imul 3 _ _ .i64 _ _ 0 rfl rfl (by decide) ?_); (try simp only [Act.put, List.setIfInBounds_toArray, List.set_cons_zero, List.set_cons_succ]))
              | ((with_reducible refine at_binD 61 ?_); refine L_give (by rfl) (g_iadd 3 _ _ .i64 _ _ 16 rfl rfl (by decide) ?_); (try simp only [Act.put, List.setIfInBounds_toArray, List.set_cons_zero, List.set_cons_succ]))
              | ((with_reducible refine at_callD 62 ?_); refine L_give (by rfl) (g_call 31 _ _ [.string s, .int .i64 ((16 : Nat) : Int), .int .i64 ((8 : Nat) : Int)] (kf31 _ _) rfl ((number_any s 16 8 t0 _ (by have := hs.out; omega) (by have := hs.out; omega) (by omega) n0).mono ?_)); rintro e w_ ⟨rfl, hW⟩; rw [hW]; clear hW w_; refine ⟨_, rfl, ?_⟩; (try simp only [Act.put, List.setIfInBounds_toArray, List.set_cons_zero, List.set_cons_succ]))
              | ((with_reducible refine at_nilD 63 ?_); refine L_give (by rfl) (g_nilc _ _ rfl ?_); (try simp only [Act.put, List.setIfInBounds_toArray, List.set_cons_zero, List.set_cons_succ]))
              | ((with_reducible refine at_storeX 63 24 ?_); refine L_give (by rfl) (g_stc24 _ _ p_h 9 (.int .u64 0) (.int .u64 t0) (hc ⟨le, ve, mo, st, po, pr, d0, d1, d2, 0, 0, 0, 0⟩) 26 rfl rfl ⟨_, _, rfl⟩ b_h rfl ?_); intro wn t_ b2; clear b_h; replace b_h : Blk wn p_h (hc ⟨le, ve, mo, st, po, pr, d0, d1, d2, t0, 0, 0, 0⟩) 26 := b2; clear b2; replace b_r := t_.blk b_r (Nat.ne_of_lt o_r_h); replace hB := t_.below hB l_hB_h; clear t_))
            go_roundw
            case rel => exact ⟨_, Or.inr (Or.inl ⟨rfl, rfl⟩), b_h, b_r, hB⟩
            case measure => simp [intOf]
          · go_wp2_with (first
              | ((with_reducible refine at_binD 54 ?_); refine L_give (by rfl) (g_ilss 3 _ _ .i64 _ _ true rfl rfl (by decide) ?_); (try simp only [Act.put, List.setIfInBounds_toArray, List.set_cons_zero, List.set_cons_succ]))
              | ((with_reducible refine at_idxD 56 ?_); refine L_give (by rfl) (g_idxA _ _ 68 67 4 1 _ ([.pointer (some ⟨p_h, 9, none⟩), .pointer (some ⟨p_h, 10, none⟩), .pointer (some ⟨p_h, 11, none⟩), .pointer (some ⟨p_h, 12, none⟩)]) (.pointer (some ⟨p_h, 10, none⟩)) Try.underlying68 Try.isAgg67 Try.sizeOf67 rfl rfl rfl (by decide) rfl ?_); (try simp only [Act.put, List.setIfInBounds_toArray, List.set_cons_zero, List.set_cons_succ]))
              | ((with_reducible refine at_binD 60 ?_); refine L_give (by rfl) (g_imul 3 _ _ .i64 _ _ 8 rfl rfl (by decide) ?_); (try simp only [Act.put, List.setIfInBounds_toArray, List.set_cons_zero, List.set_cons_succ]))
              | ((with_reducible refine at_binD 61 ?_); refine L_give (by rfl) (g_iadd 3 _ _ .i64 _ _ 24 rfl rfl (by decide) ?_); (try simp only [Act.put, List.setIfInBounds_toArray, List.set_cons_zero, List.set_cons_succ]))
              | ((with_reducible refine at_callD 62 ?_); refine L_give (by rfl) (g_call 31 _ _ [.string s, .int .i64 ((24 : Nat) : Int), .int .i64 ((8 : Nat) : Int)] (kf31 _ _) rfl ((number_any s 24 8 t1 _ (by have := hs.out; omega) (by have := hs.out; omega) (by omega) n1).mono ?_)); rintro e w_ ⟨rfl, hW⟩; rw [hW]; clear hW w_; refine ⟨_, rfl, ?_⟩; (try simp only [Act.put, List.setIfInBounds_toArray, List.set_cons_zero, List.set_cons_succ]))
              | ((with_reducible refine at_nilD 63 ?_); refine L_give (by rfl) (g_nilc _ _ rfl ?_); (try simp only [Act.put, List.setIfInBounds_toArray, List.set_cons_zero, List.set_cons_succ]))
              | ((with_reducible refine at_storeX 63 24 ?_); refine L_give (by rfl) (g_stc24 _ _ p_h 10 (.int .u64 0) (.int .u64 t1) (hc ⟨le, ve, mo, st, po, pr, d0, d1, d2, t0, 0, 0, 0⟩) 26 rfl rfl ⟨_, _, rfl⟩ b_h rfl ?_); intro wn t_ b2; clear b_h; replace b_h : Blk wn p_h (hc ⟨le, ve, mo, st, po, pr, d0, d1, d2, t0, t1, 0, 0⟩) 26 := b2; clear b2; replace b_r := t_.blk b_r (Nat.ne_of_lt o_r_h); replace hB := t_.below hB l_hB_h; clear t_))
            go_roundw
            case rel => exact ⟨_, Or.inr (Or.inr (Or.inl ⟨rfl, rfl⟩)), b_h, b_r, hB⟩
            case measure => simp [intOf]
          · go_wp2_with (first
              | ((with_reducible refine at_binD 54 ?_); refine L_give (by rfl) (g_ilss 3 _ _ .i64 _ _ true rfl rfl (by decide) ?_); (try simp only [Act.put, List.setIfInBounds_toArray, List.set_cons_zero, List.set_cons_succ]))
              | ((with_reducible refine at_idxD 56 ?_); refine L_give (by rfl) (g_idxA _ _ 68 67 4 2 _ ([.pointer (some ⟨p_h, 9, none⟩), .pointer (some ⟨p_h, 10, none⟩), .pointer (some ⟨p_h, 11, none⟩), .pointer (some ⟨p_h, 12, none⟩)]) (.pointer (some ⟨p_h, 11, none⟩)) Try.underlying68 Try.isAgg67 Try.sizeOf67 rfl rfl rfl (by decide) rfl ?_); (try simp only [Act.put, List.setIfInBounds_toArray, List.set_cons_zero, List.set_cons_succ]))
              | ((with_reducible refine at_binD 60 ?_); refine L_give (by rfl) (g_imul 3 _ _ .i64 _ _ 16 rfl rfl (by decide) ?_); (try simp only [Act.put, List.setIfInBounds_toArray, List.set_cons_zero, List.set_cons_succ]))
              | ((with_reducible refine at_binD 61 ?_); refine L_give (by rfl) (g_iadd 3 _ _ .i64 _ _ 32 rfl rfl (by decide) ?_); (try simp only [Act.put, List.setIfInBounds_toArray, List.set_cons_zero, List.set_cons_succ]))
              | ((with_reducible refine at_callD 62 ?_); refine L_give (by rfl) (g_call 31 _ _ [.string s, .int .i64 ((32 : Nat) : Int), .int .i64 ((8 : Nat) : Int)] (kf31 _ _) rfl ((number_any s 32 8 t2 _ (by have := hs.out; omega) (by have := hs.out; omega) (by omega) n2).mono ?_)); rintro e w_ ⟨rfl, hW⟩; rw [hW]; clear hW w_; refine ⟨_, rfl, ?_⟩; (try simp only [Act.put, List.setIfInBounds_toArray, List.set_cons_zero, List.set_cons_succ]))
              | ((with_reducible refine at_nilD 63 ?_); refine L_give (by rfl) (g_nilc _ _ rfl ?_); (try simp only [Act.put, List.setIfInBounds_toArray, List.set_cons_zero, List.set_cons_succ]))
              | ((with_reducible refine at_storeX 63 24 ?_); refine L_give (by rfl) (g_stc24 _ _ p_h 11 (.int .u64 0) (.int .u64 t2) (hc ⟨le, ve, mo, st, po, pr, d0, d1, d2, t0, t1, 0, 0⟩) 26 rfl rfl ⟨_, _, rfl⟩ b_h rfl ?_); intro wn t_ b2; clear b_h; replace b_h : Blk wn p_h (hc ⟨le, ve, mo, st, po, pr, d0, d1, d2, t0, t1, t2, 0⟩) 26 := b2; clear b2; replace b_r := t_.blk b_r (Nat.ne_of_lt o_r_h); replace hB := t_.below hB l_hB_h; clear t_))
            go_roundw
            case rel => exact ⟨_, Or.inr (Or.inr (Or.inr (Or.inl ⟨rfl, rfl⟩))), b_h, b_r, hB⟩
            case measure => simp [intOf]
          · go_wp2_with (first
              | ((with_reducible refine at_binD 54 ?_); refine L_give (by rfl) (g_ilss 3 _ _ .i64 _ _ true rfl rfl (by decide) ?_); (try simp only [Act.put, List.setIfInBounds_toArray, List.set_cons_zero, List.set_cons_succ]))
              | ((with_reducible refine at_idxD 56 ?_); refine L_give (by rfl) (g_idxA _ _ 68 67 4 3 _ ([.pointer (some ⟨p_h, 9, none⟩), .pointer (some ⟨p_h, 10, none⟩), .pointer (some ⟨p_h, 11, none⟩), .pointer (some ⟨p_h, 12, none⟩)]) (.pointer (some ⟨p_h, 12, none⟩)) Try.underlying68 Try.isAgg67 Try.sizeOf67 rfl rfl rfl (by decide) rfl ?_); (try simp only [Act.put, List.setIfInBounds_toArray, List.set_cons_zero, List.set_cons_succ]))
              | ((with_reducible refine at_binD 60 ?_); refine L_give (by rfl) (g_imul 3 _ _ .i64 _ _ 24 rfl rfl (by decide) ?_); (try simp only [Act.put, List.setIfInBounds_toArray, List.set_cons_zero, List.set_cons_succ]))
              | ((with_reducible refine at_binD 61 ?_); refine L_give (by rfl) (g_iadd 3 _ _ .i64 _ _ 40 rfl rfl (by decide) ?_); (try simp only [Act.put, List.setIfInBounds_toArray, List.set_cons_zero, List.set_cons_succ]))
              | ((with_reducible refine at_callD 62 ?_); refine L_give (by rfl) (g_call 31 _ _ [.string s, .int .i64 ((40 : Nat) : Int), .int .i64 ((8 : Nat) : Int)] (kf31 _ _) rfl ((number_any s 40 8 t3 _ (by have := hs.out; omega) (by have := hs.out; omega) (by omega) n3).mono ?_)); rintro e w_ ⟨rfl, hW⟩; rw [hW]; clear hW w_; refine ⟨_, rfl, ?_⟩; (try simp only [Act.put, List.setIfInBounds_toArray, List.set_cons_zero, List.set_cons_succ]))
              | ((with_reducible refine at_nilD 63 ?_); refine L_give (by rfl) (g_nilc _ _ rfl ?_); (try simp only [Act.put, List.setIfInBounds_toArray, List.set_cons_zero, List.set_cons_succ]))
              | ((with_reducible refine at_storeX 63 24 ?_); refine L_give (by rfl) (g_stc24 _ _ p_h 12 (.int .u64 0) (.int .u64 t3) (hc ⟨le, ve, mo, st, po, pr, d0, d1, d2, t0, t1, t2, 0⟩) 26 rfl rfl ⟨_, _, rfl⟩ b_h rfl ?_); intro wn t_ b2; clear b_h; replace b_h : Blk wn p_h (hc ⟨le, ve, mo, st, po, pr, d0, d1, d2, t0, t1, t2, t3⟩) 26 := b2; clear b2; replace b_r := t_.blk b_r (Nat.ne_of_lt o_r_h); replace hB := t_.below hB l_hB_h; clear t_))
            go_roundw
            case rel => exact ⟨_, Or.inr (Or.inr (Or.inr (Or.inr (⟨rfl, rfl⟩)))), b_h, b_r, hB⟩
            case measure => simp [intOf]
          · skip
            go_wp2_with (first
              | ((with_reducible refine at_binD 54 ?_); refine L_give (by rfl) (g_ilss 3 _ _ .i64 _ _ false rfl rfl (by decide) ?_))
              | ((with_reducible refine at_loadD 65 26 ?_); refine L_give (by rfl) (g_load_all 26 _ (p_h) (hc ⟨le, ve, mo, st, po, pr, d0, d1, d2, t0, t1, t2, t3⟩) 26 _ rfl (b_h) Try.underlying26 rfl (szH hz) ?_); (try simp only [Act.put, List.setIfInBounds_toArray, List.set_cons_zero, List.set_cons_succ]))
              | ((with_reducible refine at_callD 66 ?_); refine L_give (by rfl) (g_call 16 _ _ [.agg (hc (⟨le, ve, mo, st, po, pr, d0, d1, d2, t0, t1, t2, t3⟩)).toArray] (kf16 _ _) rfl ((may_any ⟨le, ve, mo, st, po, pr, d0, d1, d2, t0, t1, t2, t3⟩ false wr hm).mono ?_)); rintro e w301 ⟨rfl, t_⟩; refine ⟨_, rfl, ?_⟩; replace b_r := b_r.below t_ b_r.lt; replace b_h := b_h.below t_ b_h.lt; replace hB := hB.trans (t_.mono hB.size); clear t_; (try simp only [Act.put, List.setIfInBounds_toArray, List.set_cons_zero, List.set_cons_succ]))
              | ((with_reducible refine at_bld 68 ?_); refine L_give (by rfl) (g_bldH0 ?_); (try simp only [Act.put, List.setIfInBounds_toArray, List.set_cons_zero, List.set_cons_succ]))
              | ((with_reducible refine at_storeX 2 26 ?_); refine L_store_all 26 _ _ (w.heap.size) (hc (hz)) _ 26 rfl rfl b_r (szH hz) rfl (one_hc _) ?_; clear b_r; intro w302 t_ b_r; replace b_h := t_.blk b_h (Nat.ne_of_gt o_r_h); replace hB := t_.below hB l_hB_r; clear t_))
            exact bodyPost_ret (results_blk_tmp rfl _ (hc hz) (.int .i64 2) _ rfl rfl b_r Try.underlying26 rfl (szH hz)) rfl ⟨rfl, hB⟩
set_option maxRecDepth 10000 in
set_option maxHeartbeats 1000000 in
theorem take_s (s : ByteArray) (w : World) (hs : ((s.size : Nat) : Int) ≠ 48) : Calls Try.prog 14 #[.string s] w fun e w' => e = .returned (.tuple #[.agg (hc hz).toArray, .int .i64 5]) ∧ Below w.heap.size w w' := by
  go_enter Try.func14, Try.ntmps14
  go_wp2_with (first
    | ((with_reducible refine at_allocD 2 26 ?_); refine L_alloc 26 (hc (hz)) zeroH ?_; intro w1 t_ b_r; have l_hB_r : w.heap.size ≤ w.heap.size := Nat.le_refl _; have hB : Below w.heap.size w w1 := t_.below (Below.refl _ _) (Nat.le_refl _); clear t_; (try simp only [Act.put, List.setIfInBounds_toArray, List.set_cons_zero, List.set_cons_succ]))
    | ((with_reducible refine at_callD 10 ?_); refine L_give (by rfl) (g_slen _ _ _ rfl rfl ?_); (try simp only [Act.put, List.setIfInBounds_toArray, List.set_cons_zero, List.set_cons_succ]))
    | ((with_reducible refine at_binD 11 ?_); refine L_give (by rfl) (g_ine 3 _ _ .i64 _ _ true rfl rfl (decide_eq_true hs) ?_); (try simp only [Act.put, List.setIfInBounds_toArray, List.set_cons_zero, List.set_cons_succ]))
    | ((with_reducible refine at_bld 12 ?_); refine L_give (by rfl) (g_bldH0 ?_); (try simp only [Act.put, List.setIfInBounds_toArray, List.set_cons_zero, List.set_cons_succ]))
    | ((with_reducible refine at_storeX 2 26 ?_); refine L_store_all 26 _ _ (w.heap.size) (hc (hz)) _ 26 rfl rfl b_r (szH hz) rfl (one_hc _) ?_; clear b_r; intro w2 t_ b_r; replace hB := t_.below hB l_hB_r; clear t_))
  exact bodyPost_ret (results_blk_tmp rfl _ (hc hz) (.int .i64 5) _ rfl rfl b_r Try.underlying26 rfl (szH hz)) rfl ⟨rfl, hB⟩
theorem hd_ext (l : List UInt8) (i : Nat) (h : i < l.length) : l[i]? = some (l.getD i 0) := by
  rw [List.getElem?_eq_getElem h]; simp [List.getD, h]
theorem htake_any (s : ByteArray) (G : Hd) (E : Int) (w : World) (h : Hid (tk s = (G, E))) : Calls Try.prog 14 #[.string s] w fun e w' => e = .returned (.tuple #[.agg (hc G).toArray, .int .i64 E]) ∧ Below w.heap.size w w' := by
  have h := h.out
  have hl := Lib.size_eq s
  unfold tk at h
  split at h
  · rename_i hs
    have b0 := (s.data.toList.getD 0 0).toNat_lt
    have b1 := (s.data.toList.getD 1 0).toNat_lt
    have i := dec_in s.data.toList
    obtain ⟨i1, i2, i3, i4, i5, i6, i7, i8, i9, i10, i11, i12, i13⟩ := i
    have q0 : ((s.data.toList.getD 0 0).toNat : Int) / 8 = (((s.data.toList.getD 0 0).toNat / 8 : Nat) : Int) := by omega
    have w64 : ∀ n : Int, In64 n → IntKind.i64.wrap n = n := fun n hn => wrap_i64 n hn.1 hn.2
    have u32 : ∀ n : Int, InU32 n → IntKind.u32.wrap n = n := fun n hn => wraps_u32 n hn.1 (by have := hn.2; omega)
    split at h
    · rename_i hv
      obtain ⟨rfl, rfl⟩ := Prod.mk.inj h
      exact take_t s _ _ _ _ (dec s.data.toList).le (((s.data.toList.getD 0 0).toNat / 8 : Nat) : Int) (dec s.data.toList).ve (dec s.data.toList).mo (dec s.data.toList).st (dec s.data.toList).po (dec s.data.toList).pr (dec s.data.toList).de (dec s.data.toList).di (dec s.data.toList).ident (dec s.data.toList).re (dec s.data.toList).og (dec s.data.toList).rc (dec s.data.toList).tr w hs (hd_ext _ 0 (by omega)) (hd_ext _ 1 (by omega)) (hd_ext _ 2 (by omega)) (hd_ext _ 3 (by omega)) (by show _ = _; simp only [dec]; omega) (w64 _ i1) q0 (and7 _ (by omega)) (w64 _ i2) (and7 _ b0) (w64 _ i3) (w64 _ i4) (wrap_i8 _) (w64 _ i5) (wrap_i8 _) (w64 _ i6) rfl (u32 _ i7) rfl (u32 _ i8) rfl (u32 _ i9) rfl rfl rfl rfl (show may (dec s.data.toList) = true by rw [may_dec]; exact decide_eq_true hv)
    · rename_i hv
      obtain ⟨rfl, rfl⟩ := Prod.mk.inj h
      exact take_f s _ _ _ _ (dec s.data.toList).le (((s.data.toList.getD 0 0).toNat / 8 : Nat) : Int) (dec s.data.toList).ve (dec s.data.toList).mo (dec s.data.toList).st (dec s.data.toList).po (dec s.data.toList).pr (dec s.data.toList).de (dec s.data.toList).di (dec s.data.toList).ident (dec s.data.toList).re (dec s.data.toList).og (dec s.data.toList).rc (dec s.data.toList).tr w hs (hd_ext _ 0 (by omega)) (hd_ext _ 1 (by omega)) (hd_ext _ 2 (by omega)) (hd_ext _ 3 (by omega)) (by show _ = _; simp only [dec]; omega) (w64 _ i1) q0 (and7 _ (by omega)) (w64 _ i2) (and7 _ b0) (w64 _ i3) (w64 _ i4) (wrap_i8 _) (w64 _ i5) (wrap_i8 _) (w64 _ i6) rfl (u32 _ i7) rfl (u32 _ i8) rfl (u32 _ i9) rfl rfl rfl rfl (show may (dec s.data.toList) = false by rw [may_dec]; exact decide_eq_false hv)
  · rename_i hs
    obtain ⟨rfl, rfl⟩ := Prod.mk.inj h
    exact take_s s w (by omega)
end Go.Proofs.Yteieacamokoejaa
