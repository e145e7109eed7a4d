/- What the reference's Take answers: as the program's does. -/
import Derived.Test.YteieacamokoejaaRf1
namespace Go.Proofs.Yteieacamokoejaa
open Go Go.RowKit
set_option linter.unusedVariables false
set_option linter.unusedSimpArgs false

section
variable {P : Program} {ops : Array Oper} {rest : List Oper} {a : Act} {w : World} {Q : Exit → Act → World → Prop} {dst : Option Tmp} {ty yt : TypeId} {pos : String} {aft : Array Edge} {gd : Option (Nat × Bool)} {K : Value → World → Prop}
theorem g_bHa (x0 x1 x2 x3 x4 x5 x6 x7 x8 x9 x10 x11 x12 : Operand) (v : Hd) (h0 : a.eval x0 = .int .i64 v.le) (h1 : a.eval x1 = .int .i64 v.ve) (h2 : a.eval x2 = .int .i64 v.mo) (h3 : a.eval x3 = .int .i64 v.st) (h4 : a.eval x4 = .int .i64 v.po) (h5 : a.eval x5 = .int .i64 v.pr) (h6 : a.eval x6 = .int .u32 v.de) (h7 : a.eval x7 = .int .u32 v.di) (h8 : a.eval x8 = .int .u32 v.ident) (h9 : a.eval x9 = .int .u64 v.re) (h10 : a.eval x10 = .int .u64 v.og) (h11 : a.eval x11 = .int .u64 v.rc) (h12 : a.eval x12 = .int .u64 v.tr) (hk : K (.agg (hc v).toArray) w) : gives Try.prog ⟨dst, .build 26 #[(0, x0), (1, x1), (2, x2), (3, x3), (4, x4), (5, x5), (6, x6), (7, x7), (8, x8), (9, x9), (10, x10), (11, x11), (12, x12)], ty, pos, aft, gd⟩ a w K :=
  g_val (.agg (hc v).toArray) w (by simp only [execOp, h0, h1, h2, h3, h4, h5, h6, h7, h8, h9, h10, h11, h12, List.map_toArray, List.map_cons, List.map_nil]; go_simp; rfl) hk
end
set_option maxRecDepth 10000 in
set_option maxHeartbeats 2000000 in
theorem rtake_t (s : ByteArray) (c0 c1 c2 c3 : UInt8) (le x0 ve mo st po pr d0 d1 d2 t0 t1 t2 t3 : Int) (w : World) (hs : Hid (s.size = 48)) (hc0 : s.data.toList[0]? = some c0) (hc1 : s.data.toList[1]? = some c1) (hc2 : s.data.toList[2]? = some c2) (hc3 : s.data.toList[3]? = some c3)
    (e1 : Hid (IntKind.u8.wrap ((c0.toNat : Int).tdiv 64) = le)) (e2 : Hid (IntKind.i64.wrap le = le)) (e3 : Hid (IntKind.u8.wrap ((c0.toNat : Int).tdiv 8) = x0)) (e4 : Hid (x0.tmod 8 = ve)) (e5 : Hid (IntKind.i64.wrap ve = ve)) (e6 : Hid ((c0.toNat : Int).tmod 8 = mo)) (e7 : Hid (IntKind.i64.wrap mo = mo)) (e8 : Hid (IntKind.i64.wrap (c1.toNat : Int) = st)) (e9 : Hid (sg c2 = po)) (e10 : Hid (sg c3 = pr))
    (m0 : Hid (((nm s.data.toList 4 4 : Nat) : Int) = d0)) (v0 : Hid (IntKind.u32.wrap d0 = d0)) (m1 : Hid (((nm s.data.toList 8 4 : Nat) : Int) = d1)) (v1 : Hid (IntKind.u32.wrap d1 = d1)) (m2 : Hid (((nm s.data.toList 12 4 : Nat) : Int) = d2)) (v2 : Hid (IntKind.u32.wrap d2 = d2)) (n0 : Hid (((nm s.data.toList 16 8 : Nat) : Int) = t0)) (n1 : Hid (((nm s.data.toList 24 8 : Nat) : Int) = t1)) (n2 : Hid (((nm s.data.toList 32 8 : Nat) : Int) = t2)) (n3 : Hid (((nm s.data.toList 40 8 : Nat) : Int) = t3)) (hv : Hid (ve = 4)) : Calls Try.prog 15 #[.string s] w fun e w' => e = .returned (.tuple #[.agg (hc ⟨le, ve, mo, st, po, pr, d0, d1, d2, t0, t1, t2, t3⟩).toArray, .int .i64 0]) ∧ Below w.heap.size w w' := by
  go_enter Try.func15, Try.ntmps15
  (try simp only [List.append_eq, List.cons_append, List.nil_append])
  go_wp2_with (first
    | ((with_reducible refine at_allocD 2 26 ?_); refine L_alloc 26 (hc (hz)) zeroH ?_; intro w1 t_ b_r; have l_hB_r : w.heap.size ≤ w.heap.size := Nat.le_refl _; have hB : Below w.heap.size w w1 := t_.below (Below.refl _ _) (Nat.le_refl _); clear t_; (try simp only [Act.put, List.setIfInBounds_toArray, List.set_cons_zero, List.set_cons_succ]))
    | ((with_reducible refine at_callD 6 ?_); refine L_give (by rfl) (g_slen _ _ _ rfl rfl ?_); (try simp only [Act.put, List.setIfInBounds_toArray, List.set_cons_zero, List.set_cons_succ]))
    | ((with_reducible refine at_binD 7 ?_); refine L_give (by rfl) (g_ine 3 _ _ .i64 _ _ false rfl rfl (decide_eq_false (fun h => h (by have := hs.out; omega))) ?_); (try simp only [Act.put, List.setIfInBounds_toArray, List.set_cons_zero, List.set_cons_succ]))
    | (refine stop_region 3 ?_; intro X hX))
  refine hX.out ?_
  clear hX X
  refine wp_region_new (by kernel_rfl) (by kernel_rfl) 40 41 26 (hc (hz)) (hc (⟨le, ve, mo, st, po, pr, d0, d1, d2, t0, t1, t2, t3⟩)) (fun p_ => [.string (s), .int .u8 (c0.toNat), .int .u8 (le), .int .i64 (le), .string (s), .int .u8 (c0.toNat), .int .u8 (x0), .int .u8 (ve), .int .i64 (ve), .string (s), .int .u8 (c0.toNat), .int .u8 (mo), .int .i64 (mo), .string (s), .int .u8 (c1.toNat), .int .i64 (st), .string (s), .int .u8 (c2.toNat), .int .i64 (po), .string (s), .int .u8 (c3.toNat), .int .i64 (pr), .string (s), .int .u64 (d0), .int .u32 (d0), .string (s), .int .u64 (d1), .int .u32 (d1), .string (s), .int .u64 (d2), .int .u32 (d2), .string (s), .int .u64 (t0), .string (s), .int .u64 (t1), .string (s), .int .u64 (t2), .string (s), .int .u64 (t3), .agg (hc (⟨le, ve, mo, st, po, pr, d0, d1, d2, t0, t1, t2, t3⟩)).toArray, p_, undef]) (fun _ => by rfl) (by decide) (by decide) (by decide) ?_ (fun _ => by rfl) ?_ ?_ ?_ ?_ ?_
  · intro o ho; obtain rfl := Option.some.inj ho; exact ⟨⟨40, .data⟩, by simp, rfl, rfl⟩
  · intro p q i hi; rcases i with _ | _ | _ | _ | _ | _ | _ | _ | _ | _ | _ | _ | _ | _ | _ | _ | _ | _ | _ | _ | _ | _ | _ | _ | _ | _ | _ | _ | _ | _ | _ | _ | _ | _ | _ | _ | _ | _ | _ | _ | _ | _ | i <;> first | rfl | exact absurd rfl hi
  · intro o ho a w'; obtain rfl := Option.some.inj ho; exact gw rfl (g_alloc 26 _ zeroH (fun w' h1 h2 => ⟨rfl, h1, h2⟩))
  · intro o ho p w' hb; obtain rfl := Option.some.inj ho; simp only [fullL, Act.put, List.setIfInBounds_toArray, List.set_cons_succ, List.set_cons_zero]; exact gw rfl (g_store_all 26 _ _ p (hc (⟨le, ve, mo, st, po, pr, d0, d1, d2, t0, t1, t2, t3⟩)) _ 26 rfl rfl hb (szH hz) rfl (one_hc _) (fun w' h1 h2 => ⟨rfl, h1, h2⟩))
  · simp only [fullL, Act.put, List.setIfInBounds_toArray, List.set_cons_succ, List.set_cons_zero]
    intro i o ho hA hS p_ wx hw
    rcases i with _ | _ | _ | _ | _ | _ | _ | _ | _ | _ | _ | _ | _ | _ | _ | _ | _ | _ | _ | _ | _ | _ | _ | _ | _ | _ | _ | _ | _ | _ | _ | _ | _ | _ | _ | _ | _ | _ | _ | _ | _ | _ | i
    · obtain rfl := Option.some.inj ho; exact gw rfl (g_move _ _ rfl ⟨rfl, Below.refl _ _⟩)
    · obtain rfl := Option.some.inj ho; exact gw rfl (g_sidx _ _ s 0 _ c0 rfl rfl rfl hc0 ⟨rfl, Below.refl _ _⟩)
    · obtain rfl := Option.some.inj ho; exact gw rfl (g_quo8 _ _ _ _ le rfl rfl (by decide) e1.out ⟨rfl, Below.refl _ _⟩)
    · obtain rfl := Option.some.inj ho; exact gw rfl (g_cv_5_3 _ _ _ rfl e2.out ⟨rfl, Below.refl _ _⟩)
    · obtain rfl := Option.some.inj ho; exact gw rfl (g_move _ _ rfl ⟨rfl, Below.refl _ _⟩)
    · obtain rfl := Option.some.inj ho; exact gw rfl (g_sidx _ _ s 0 _ c0 rfl rfl rfl hc0 ⟨rfl, Below.refl _ _⟩)
    · obtain rfl := Option.some.inj ho; exact gw rfl (g_quo8 _ _ _ _ x0 rfl rfl (by decide) e3.out ⟨rfl, Below.refl _ _⟩)
    · obtain rfl := Option.some.inj ho; exact gw rfl (g_irem 5 _ _ .u8 _ _ ve rfl rfl (by decide) e4.out ⟨rfl, Below.refl _ _⟩)
    · obtain rfl := Option.some.inj ho; exact gw rfl (g_cv_5_3 _ _ _ rfl e5.out ⟨rfl, Below.refl _ _⟩)
    · obtain rfl := Option.some.inj ho; exact gw rfl (g_move _ _ rfl ⟨rfl, Below.refl _ _⟩)
    · obtain rfl := Option.some.inj ho; exact gw rfl (g_sidx _ _ s 0 _ c0 rfl rfl rfl hc0 ⟨rfl, Below.refl _ _⟩)
    · obtain rfl := Option.some.inj ho; exact gw rfl (g_irem 5 _ _ .u8 _ _ mo rfl rfl (by decide) e6.out ⟨rfl, Below.refl _ _⟩)
    · obtain rfl := Option.some.inj ho; exact gw rfl (g_cv_5_3 _ _ _ rfl e7.out ⟨rfl, Below.refl _ _⟩)
    · obtain rfl := Option.some.inj ho; exact gw rfl (g_move _ _ rfl ⟨rfl, Below.refl _ _⟩)
    · obtain rfl := Option.some.inj ho; exact gw rfl (g_sidx _ _ s 1 _ c1 rfl rfl rfl hc1 ⟨rfl, Below.refl _ _⟩)
    · obtain rfl := Option.some.inj ho; exact gw rfl (g_cv_5_3 _ _ _ rfl e8.out ⟨rfl, Below.refl _ _⟩)
    · obtain rfl := Option.some.inj ho; exact gw rfl (g_move _ _ rfl ⟨rfl, Below.refl _ _⟩)
    · obtain rfl := Option.some.inj ho; exact gw rfl (g_sidx _ _ s 2 _ c2 rfl rfl rfl hc2 ⟨rfl, Below.refl _ _⟩)
    · obtain rfl := Option.some.inj ho; exact gw rfl (g_call 32 _ _ [.int .u8 (c2.toNat)] (kf32 _ _) rfl ((below_any c2 po wx e9).mono fun _ _ ⟨h1, h2⟩ => ⟨_, h1, rfl, h2 ▸ Below.refl _ _⟩))
    · obtain rfl := Option.some.inj ho; exact gw rfl (g_move _ _ rfl ⟨rfl, Below.refl _ _⟩)
    · obtain rfl := Option.some.inj ho; exact gw rfl (g_sidx _ _ s 3 _ c3 rfl rfl rfl hc3 ⟨rfl, Below.refl _ _⟩)
    · obtain rfl := Option.some.inj ho; exact gw rfl (g_call 32 _ _ [.int .u8 (c3.toNat)] (kf32 _ _) rfl ((below_any c3 pr wx e10).mono fun _ _ ⟨h1, h2⟩ => ⟨_, h1, rfl, h2 ▸ Below.refl _ _⟩))
    · obtain rfl := Option.some.inj ho; exact gw rfl (g_move _ _ rfl ⟨rfl, Below.refl _ _⟩)
    · obtain rfl := Option.some.inj ho; exact gw rfl (g_call 33 _ _ [.string (s), .int .i64 (4), .int .i64 (4)] (kf33 _ _) rfl ((rnum_any s 4 4 d0 wx (by have := hs.out; omega) (by have := hs.out; omega) (by decide) m0).mono fun _ _ ⟨h1, h2⟩ => ⟨_, h1, rfl, h2 ▸ Below.refl _ _⟩))
    · obtain rfl := Option.some.inj ho; exact gw rfl (g_cv_23_22 _ _ _ rfl v0.out ⟨rfl, Below.refl _ _⟩)
    · obtain rfl := Option.some.inj ho; exact gw rfl (g_move _ _ rfl ⟨rfl, Below.refl _ _⟩)
    · obtain rfl := Option.some.inj ho; exact gw rfl (g_call 33 _ _ [.string (s), .int .i64 (8), .int .i64 (4)] (kf33 _ _) rfl ((rnum_any s 8 4 d1 wx (by have := hs.out; omega) (by have := hs.out; omega) (by decide) m1).mono fun _ _ ⟨h1, h2⟩ => ⟨_, h1, rfl, h2 ▸ Below.refl _ _⟩))
    · obtain rfl := Option.some.inj ho; exact gw rfl (g_cv_23_22 _ _ _ rfl v1.out ⟨rfl, Below.refl _ _⟩)
    · obtain rfl := Option.some.inj ho; exact gw rfl (g_move _ _ rfl ⟨rfl, Below.refl _ _⟩)
    · obtain rfl := Option.some.inj ho; exact gw rfl (g_call 33 _ _ [.string (s), .int .i64 (12), .int .i64 (4)] (kf33 _ _) rfl ((rnum_any s 12 4 d2 wx (by have := hs.out; omega) (by have := hs.out; omega) (by decide) m2).mono fun _ _ ⟨h1, h2⟩ => ⟨_, h1, rfl, h2 ▸ Below.refl _ _⟩))
    · obtain rfl := Option.some.inj ho; exact gw rfl (g_cv_23_22 _ _ _ rfl v2.out ⟨rfl, Below.refl _ _⟩)
    · obtain rfl := Option.some.inj ho; exact gw rfl (g_move _ _ rfl ⟨rfl, Below.refl _ _⟩)
    · obtain rfl := Option.some.inj ho; exact gw rfl (g_call 33 _ _ [.string (s), .int .i64 (16), .int .i64 (8)] (kf33 _ _) rfl ((rnum_any s 16 8 t0 wx (by have := hs.out; omega) (by have := hs.out; omega) (by decide) n0).mono fun _ _ ⟨h1, h2⟩ => ⟨_, h1, rfl, h2 ▸ Below.refl _ _⟩))
    · obtain rfl := Option.some.inj ho; exact gw rfl (g_move _ _ rfl ⟨rfl, Below.refl _ _⟩)
    · obtain rfl := Option.some.inj ho; exact gw rfl (g_call 33 _ _ [.string (s), .int .i64 (24), .int .i64 (8)] (kf33 _ _) rfl ((rnum_any s 24 8 t1 wx (by have := hs.out; omega) (by have := hs.out; omega) (by decide) n1).mono fun _ _ ⟨h1, h2⟩ => ⟨_, h1, rfl, h2 ▸ Below.refl _ _⟩))
    · obtain rfl := Option.some.inj ho; exact gw rfl (g_move _ _ rfl ⟨rfl, Below.refl _ _⟩)
    · obtain rfl := Option.some.inj ho; exact gw rfl (g_call 33 _ _ [.string (s), .int .i64 (32), .int .i64 (8)] (kf33 _ _) rfl ((rnum_any s 32 8 t2 wx (by have := hs.out; omega) (by have := hs.out; omega) (by decide) n2).mono fun _ _ ⟨h1, h2⟩ => ⟨_, h1, rfl, h2 ▸ Below.refl _ _⟩))
    · obtain rfl := Option.some.inj ho; exact gw rfl (g_move _ _ rfl ⟨rfl, Below.refl _ _⟩)
    · obtain rfl := Option.some.inj ho; exact gw rfl (g_call 33 _ _ [.string (s), .int .i64 (40), .int .i64 (8)] (kf33 _ _) rfl ((rnum_any s 40 8 t3 wx (by have := hs.out; omega) (by have := hs.out; omega) (by decide) n3).mono fun _ _ ⟨h1, h2⟩ => ⟨_, h1, rfl, h2 ▸ Below.refl _ _⟩))
    · obtain rfl := Option.some.inj ho; exact gw rfl (g_bHa _ _ _ _ _ _ _ _ _ _ _ _ _ ⟨le, ve, mo, st, po, pr, d0, d1, d2, t0, t1, t2, t3⟩ rfl rfl rfl rfl rfl rfl rfl rfl rfl rfl rfl rfl rfl ⟨rfl, Below.refl _ _⟩)
    · exact absurd rfl hA
    · exact absurd rfl hS
    · simp at ho
  · simp only [fullL, Act.put, List.setIfInBounds_toArray, List.set_cons_succ, List.set_cons_zero]
    intro p_h w2 t_ lp_h b_h
    have o_r_h : w.heap.size < p_h := Nat.lt_of_lt_of_le b_r.lt lp_h
    have l_hB_h : _ ≤ p_h := Nat.le_trans hB.size lp_h
    replace b_r := b_r.below t_ b_r.lt
    replace hB := hB.trans (t_.mono hB.size)
    clear t_
    go_wp2_with (first
      | ((with_reducible refine at_loadD 50 3 ?_); refine L_give (by rfl) (g_cell3 _ (p_h) 1 _ rfl ((b_h).cell 1 _ rfl) ?_); (try simp only [Act.put, List.setIfInBounds_toArray, List.set_cons_zero, List.set_cons_succ]))
      | ((with_reducible refine at_binD 51 ?_); refine L_give (by rfl) (g_ine 3 _ _ .i64 _ _ false rfl rfl (decide_eq_false (fun h => h hv.out)) ?_); (try simp only [Act.put, List.setIfInBounds_toArray, List.set_cons_zero, List.set_cons_succ]))
      | ((with_reducible refine at_loadD 53 26 ?_); refine L_give (by rfl) (g_load_all 26 _ (p_h) (hc (⟨le, ve, mo, st, po, pr, d0, d1, d2, t0, t1, t2, t3⟩)) 26 _ rfl (b_h) Try.underlying26 rfl (szH hz) ?_); (try simp only [Act.put, List.setIfInBounds_toArray, List.set_cons_zero, List.set_cons_succ]))
      | ((with_reducible refine at_storeX 2 26 ?_); refine L_store_all 26 _ _ (w.heap.size) (hc (⟨le, ve, mo, st, po, pr, d0, d1, d2, t0, t1, t2, t3⟩)) _ 26 rfl rfl b_r (szH hz) rfl (one_hc _) ?_; clear b_r; intro w3 t_ b_r; replace b_h := t_.blk b_h (Nat.ne_of_gt o_r_h); replace hB := t_.below hB l_hB_r; clear t_))
    exact bodyPost_ret (results_blk_tmp rfl _ (hc ⟨le, ve, mo, st, po, pr, d0, d1, d2, t0, t1, t2, t3⟩) (.int .i64 0) _ rfl rfl b_r Try.underlying26 rfl (szH hz)) rfl ⟨rfl, hB⟩
set_option maxRecDepth 10000 in
set_option maxHeartbeats 2000000 in
theorem rtake_f (s : ByteArray) (c0 c1 c2 c3 : UInt8) (le x0 ve mo st po pr d0 d1 d2 t0 t1 t2 t3 : Int) (w : World) (hs : Hid (s.size = 48)) (hc0 : s.data.toList[0]? = some c0) (hc1 : s.data.toList[1]? = some c1) (hc2 : s.data.toList[2]? = some c2) (hc3 : s.data.toList[3]? = some c3)
    (e1 : Hid (IntKind.u8.wrap ((c0.toNat : Int).tdiv 64) = le)) (e2 : Hid (IntKind.i64.wrap le = le)) (e3 : Hid (IntKind.u8.wrap ((c0.toNat : Int).tdiv 8) = x0)) (e4 : Hid (x0.tmod 8 = ve)) (e5 : Hid (IntKind.i64.wrap ve = ve)) (e6 : Hid ((c0.toNat : Int).tmod 8 = mo)) (e7 : Hid (IntKind.i64.wrap mo = mo)) (e8 : Hid (IntKind.i64.wrap (c1.toNat : Int) = st)) (e9 : Hid (sg c2 = po)) (e10 : Hid (sg c3 = pr))
    (m0 : Hid (((nm s.data.toList 4 4 : Nat) : Int) = d0)) (v0 : Hid (IntKind.u32.wrap d0 = d0)) (m1 : Hid (((nm s.data.toList 8 4 : Nat) : Int) = d1)) (v1 : Hid (IntKind.u32.wrap d1 = d1)) (m2 : Hid (((nm s.data.toList 12 4 : Nat) : Int) = d2)) (v2 : Hid (IntKind.u32.wrap d2 = d2)) (n0 : Hid (((nm s.data.toList 16 8 : Nat) : Int) = t0)) (n1 : Hid (((nm s.data.toList 24 8 : Nat) : Int) = t1)) (n2 : Hid (((nm s.data.toList 32 8 : Nat) : Int) = t2)) (n3 : Hid (((nm s.data.toList 40 8 : Nat) : Int) = t3)) (hv : ve ≠ 4) : Calls Try.prog 15 #[.string s] w fun e w' => e = .returned (.tuple #[.agg (hc hz).toArray, .int .i64 2]) ∧ Below w.heap.size w w' := by
  go_enter Try.func15, Try.ntmps15
  (try simp only [List.append_eq, List.cons_append, List.nil_append])
  go_wp2_with (first
    | ((with_reducible refine at_allocD 2 26 ?_); refine L_alloc 26 (hc (hz)) zeroH ?_; intro w1 t_ b_r; have l_hB_r : w.heap.size ≤ w.heap.size := Nat.le_refl _; have hB : Below w.heap.size w w1 := t_.below (Below.refl _ _) (Nat.le_refl _); clear t_; (try simp only [Act.put, List.setIfInBounds_toArray, List.set_cons_zero, List.set_cons_succ]))
    | ((with_reducible refine at_callD 6 ?_); refine L_give (by rfl) (g_slen _ _ _ rfl rfl ?_); (try simp only [Act.put, List.setIfInBounds_toArray, List.set_cons_zero, List.set_cons_succ]))
    | ((with_reducible refine at_binD 7 ?_); refine L_give (by rfl) (g_ine 3 _ _ .i64 _ _ false rfl rfl (decide_eq_false (fun h => h (by have := hs.out; omega))) ?_); (try simp only [Act.put, List.setIfInBounds_toArray, List.set_cons_zero, List.set_cons_succ]))
    | (refine stop_region 3 ?_; intro X hX))
  refine hX.out ?_
  clear hX X
  refine wp_region_new (by kernel_rfl) (by kernel_rfl) 40 41 26 (hc (hz)) (hc (⟨le, ve, mo, st, po, pr, d0, d1, d2, t0, t1, t2, t3⟩)) (fun p_ => [.string (s), .int .u8 (c0.toNat), .int .u8 (le), .int .i64 (le), .string (s), .int .u8 (c0.toNat), .int .u8 (x0), .int .u8 (ve), .int .i64 (ve), .string (s), .int .u8 (c0.toNat), .int .u8 (mo), .int .i64 (mo), .string (s), .int .u8 (c1.toNat), .int .i64 (st), .string (s), .int .u8 (c2.toNat), .int .i64 (po), .string (s), .int .u8 (c3.toNat), .int .i64 (pr), .string (s), .int .u64 (d0), .int .u32 (d0), .string (s), .int .u64 (d1), .int .u32 (d1), .string (s), .int .u64 (d2), .int .u32 (d2), .string (s), .int .u64 (t0), .string (s), .int .u64 (t1), .string (s), .int .u64 (t2), .string (s), .int .u64 (t3), .agg (hc (⟨le, ve, mo, st, po, pr, d0, d1, d2, t0, t1, t2, t3⟩)).toArray, p_, undef]) (fun _ => by rfl) (by decide) (by decide) (by decide) ?_ (fun _ => by rfl) ?_ ?_ ?_ ?_ ?_
  · intro o ho; obtain rfl := Option.some.inj ho; exact ⟨⟨40, .data⟩, by simp, rfl, rfl⟩
  · intro p q i hi; rcases i with _ | _ | _ | _ | _ | _ | _ | _ | _ | _ | _ | _ | _ | _ | _ | _ | _ | _ | _ | _ | _ | _ | _ | _ | _ | _ | _ | _ | _ | _ | _ | _ | _ | _ | _ | _ | _ | _ | _ | _ | _ | _ | i <;> first | rfl | exact absurd rfl hi
  · intro o ho a w'; obtain rfl := Option.some.inj ho; exact gw rfl (g_alloc 26 _ zeroH (fun w' h1 h2 => ⟨rfl, h1, h2⟩))
  · intro o ho p w' hb; obtain rfl := Option.some.inj ho; simp only [fullL, Act.put, List.setIfInBounds_toArray, List.set_cons_succ, List.set_cons_zero]; exact gw rfl (g_store_all 26 _ _ p (hc (⟨le, ve, mo, st, po, pr, d0, d1, d2, t0, t1, t2, t3⟩)) _ 26 rfl rfl hb (szH hz) rfl (one_hc _) (fun w' h1 h2 => ⟨rfl, h1, h2⟩))
  · simp only [fullL, Act.put, List.setIfInBounds_toArray, List.set_cons_succ, List.set_cons_zero]
    intro i o ho hA hS p_ wx hw
    rcases i with _ | _ | _ | _ | _ | _ | _ | _ | _ | _ | _ | _ | _ | _ | _ | _ | _ | _ | _ | _ | _ | _ | _ | _ | _ | _ | _ | _ | _ | _ | _ | _ | _ | _ | _ | _ | _ | _ | _ | _ | _ | _ | i
    · obtain rfl := Option.some.inj ho; exact gw rfl (g_move _ _ rfl ⟨rfl, Below.refl _ _⟩)
    · obtain rfl := Option.some.inj ho; exact gw rfl (g_sidx _ _ s 0 _ c0 rfl rfl rfl hc0 ⟨rfl, Below.refl _ _⟩)
    · obtain rfl := Option.some.inj ho; exact gw rfl (g_quo8 _ _ _ _ le rfl rfl (by decide) e1.out ⟨rfl, Below.refl _ _⟩)
    · obtain rfl := Option.some.inj ho; exact gw rfl (g_cv_5_3 _ _ _ rfl e2.out ⟨rfl, Below.refl _ _⟩)
    · obtain rfl := Option.some.inj ho; exact gw rfl (g_move _ _ rfl ⟨rfl, Below.refl _ _⟩)
    · obtain rfl := Option.some.inj ho; exact gw rfl (g_sidx _ _ s 0 _ c0 rfl rfl rfl hc0 ⟨rfl, Below.refl _ _⟩)
    · obtain rfl := Option.some.inj ho; exact gw rfl (g_quo8 _ _ _ _ x0 rfl rfl (by decide) e3.out ⟨rfl, Below.refl _ _⟩)
    · obtain rfl := Option.some.inj ho; exact gw rfl (g_irem 5 _ _ .u8 _ _ ve rfl rfl (by decide) e4.out ⟨rfl, Below.refl _ _⟩)
    · obtain rfl := Option.some.inj ho; exact gw rfl (g_cv_5_3 _ _ _ rfl e5.out ⟨rfl, Below.refl _ _⟩)
    · obtain rfl := Option.some.inj ho; exact gw rfl (g_move _ _ rfl ⟨rfl, Below.refl _ _⟩)
    · obtain rfl := Option.some.inj ho; exact gw rfl (g_sidx _ _ s 0 _ c0 rfl rfl rfl hc0 ⟨rfl, Below.refl _ _⟩)
    · obtain rfl := Option.some.inj ho; exact gw rfl (g_irem 5 _ _ .u8 _ _ mo rfl rfl (by decide) e6.out ⟨rfl, Below.refl _ _⟩)
    · obtain rfl := Option.some.inj ho; exact gw rfl (g_cv_5_3 _ _ _ rfl e7.out ⟨rfl, Below.refl _ _⟩)
    · obtain rfl := Option.some.inj ho; exact gw rfl (g_move _ _ rfl ⟨rfl, Below.refl _ _⟩)
    · obtain rfl := Option.some.inj ho; exact gw rfl (g_sidx _ _ s 1 _ c1 rfl rfl rfl hc1 ⟨rfl, Below.refl _ _⟩)
    · obtain rfl := Option.some.inj ho; exact gw rfl (g_cv_5_3 _ _ _ rfl e8.out ⟨rfl, Below.refl _ _⟩)
    · obtain rfl := Option.some.inj ho; exact gw rfl (g_move _ _ rfl ⟨rfl, Below.refl _ _⟩)
    · obtain rfl := Option.some.inj ho; exact gw rfl (g_sidx _ _ s 2 _ c2 rfl rfl rfl hc2 ⟨rfl, Below.refl _ _⟩)
    · obtain rfl := Option.some.inj ho; exact gw rfl (g_call 32 _ _ [.int .u8 (c2.toNat)] (kf32 _ _) rfl ((below_any c2 po wx e9).mono fun _ _ ⟨h1, h2⟩ => ⟨_, h1, rfl, h2 ▸ Below.refl _ _⟩))
    · obtain rfl := Option.some.inj ho; exact gw rfl (g_move _ _ rfl ⟨rfl, Below.refl _ _⟩)
    · obtain rfl := Option.some.inj ho; exact gw rfl (g_sidx _ _ s 3 _ c3 rfl rfl rfl hc3 ⟨rfl, Below.refl _ _⟩)
    · obtain rfl := Option.some.inj ho; exact gw rfl (g_call 32 _ _ [.int .u8 (c3.toNat)] (kf32 _ _) rfl ((below_any c3 pr wx e10).mono fun _ _ ⟨h1, h2⟩ => ⟨_, h1, rfl, h2 ▸ Below.refl _ _⟩))
    · obtain rfl := Option.some.inj ho; exact gw rfl (g_move _ _ rfl ⟨rfl, Below.refl _ _⟩)
    · obtain rfl := Option.some.inj ho; exact gw rfl (g_call 33 _ _ [.string (s), .int .i64 (4), .int .i64 (4)] (kf33 _ _) rfl ((rnum_any s 4 4 d0 wx (by have := hs.out; omega) (by have := hs.out; omega) (by decide) m0).mono fun _ _ ⟨h1, h2⟩ => ⟨_, h1, rfl, h2 ▸ Below.refl _ _⟩))
    · obtain rfl := Option.some.inj ho; exact gw rfl (g_cv_23_22 _ _ _ rfl v0.out ⟨rfl, Below.refl _ _⟩)
    · obtain rfl := Option.some.inj ho; exact gw rfl (g_move _ _ rfl ⟨rfl, Below.refl _ _⟩)
    · obtain rfl := Option.some.inj ho; exact gw rfl (g_call 33 _ _ [.string (s), .int .i64 (8), .int .i64 (4)] (kf33 _ _) rfl ((rnum_any s 8 4 d1 wx (by have := hs.out; omega) (by have := hs.out; omega) (by decide) m1).mono fun _ _ ⟨h1, h2⟩ => ⟨_, h1, rfl, h2 ▸ Below.refl _ _⟩))
    · obtain rfl := Option.some.inj ho; exact gw rfl (g_cv_23_22 _ _ _ rfl v1.out ⟨rfl, Below.refl _ _⟩)
    · obtain rfl := Option.some.inj ho; exact gw rfl (g_move _ _ rfl ⟨rfl, Below.refl _ _⟩)
    · obtain rfl := Option.some.inj ho; exact gw rfl (g_call 33 _ _ [.string (s), .int .i64 (12), .int .i64 (4)] (kf33 _ _) rfl ((rnum_any s 12 4 d2 wx (by have := hs.out; omega) (by have := hs.out; omega) (by decide) m2).mono fun _ _ ⟨h1, h2⟩ => ⟨_, h1, rfl, h2 ▸ Below.refl _ _⟩))
    · obtain rfl := Option.some.inj ho; exact gw rfl (g_cv_23_22 _ _ _ rfl v2.out ⟨rfl, Below.refl _ _⟩)
    · obtain rfl := Option.some.inj ho; exact gw rfl (g_move _ _ rfl ⟨rfl, Below.refl _ _⟩)
    · obtain rfl := Option.some.inj ho; exact gw rfl (g_call 33 _ _ [.string (s), .int .i64 (16), .int .i64 (8)] (kf33 _ _) rfl ((rnum_any s 16 8 t0 wx (by have := hs.out; omega) (by have := hs.out; omega) (by decide) n0).mono fun _ _ ⟨h1, h2⟩ => ⟨_, h1, rfl, h2 ▸ Below.refl _ _⟩))
    · obtain rfl := Option.some.inj ho; exact gw rfl (g_move _ _ rfl ⟨rfl, Below.refl _ _⟩)
    · obtain rfl := Option.some.inj ho; exact gw rfl (g_call 33 _ _ [.string (s), .int .i64 (24), .int .i64 (8)] (kf33 _ _) rfl ((rnum_any s 24 8 t1 wx (by have := hs.out; omega) (by have := hs.out; omega) (by decide) n1).mono fun _ _ ⟨h1, h2⟩ => ⟨_, h1, rfl, h2 ▸ Below.refl _ _⟩))
    · obtain rfl := Option.some.inj ho; exact gw rfl (g_move _ _ rfl ⟨rfl, Below.refl _ _⟩)
    · obtain rfl := Option.some.inj ho; exact gw rfl (g_call 33 _ _ [.string (s), .int .i64 (32), .int .i64 (8)] (kf33 _ _) rfl ((rnum_any s 32 8 t2 wx (by have := hs.out; omega) (by have := hs.out; omega) (by decide) n2).mono fun _ _ ⟨h1, h2⟩ => ⟨_, h1, rfl, h2 ▸ Below.refl _ _⟩))
    · obtain rfl := Option.some.inj ho; exact gw rfl (g_move _ _ rfl ⟨rfl, Below.refl _ _⟩)
    · obtain rfl := Option.some.inj ho; exact gw rfl (g_call 33 _ _ [.string (s), .int .i64 (40), .int .i64 (8)] (kf33 _ _) rfl ((rnum_any s 40 8 t3 wx (by have := hs.out; omega) (by have := hs.out; omega) (by decide) n3).mono fun _ _ ⟨h1, h2⟩ => ⟨_, h1, rfl, h2 ▸ Below.refl _ _⟩))
    · obtain rfl := Option.some.inj ho; exact gw rfl (g_bHa _ _ _ _ _ _ _ _ _ _ _ _ _ ⟨le, ve, mo, st, po, pr, d0, d1, d2, t0, t1, t2, t3⟩ rfl rfl rfl rfl rfl rfl rfl rfl rfl rfl rfl rfl rfl ⟨rfl, Below.refl _ _⟩)
    · exact absurd rfl hA
    · exact absurd rfl hS
    · simp at ho
  · simp only [fullL, Act.put, List.setIfInBounds_toArray, List.set_cons_succ, List.set_cons_zero]
    intro p_h w2 t_ lp_h b_h
    have o_r_h : w.heap.size < p_h := Nat.lt_of_lt_of_le b_r.lt lp_h
    have l_hB_h : _ ≤ p_h := Nat.le_trans hB.size lp_h
    replace b_r := b_r.below t_ b_r.lt
    replace hB := hB.trans (t_.mono hB.size)
    clear t_
    go_wp2_with (first
      | ((with_reducible refine at_loadD 50 3 ?_); refine L_give (by rfl) (g_cell3 _ (p_h) 1 _ rfl ((b_h).cell 1 _ rfl) ?_); (try simp only [Act.put, List.setIfInBounds_toArray, List.set_cons_zero, List.set_cons_succ]))
      | ((with_reducible refine at_binD 51 ?_); refine L_give (by rfl) (g_ine 3 _ _ .i64 _ _ true rfl rfl (decide_eq_true hv) ?_); (try simp only [Act.put, List.setIfInBounds_toArray, List.set_cons_zero, List.set_cons_succ]))
      | ((with_reducible refine at_bld 52 ?_); refine L_give (by rfl) (g_bldH0 ?_); (try simp only [Act.put, List.setIfInBounds_toArray, List.set_cons_zero, List.set_cons_succ]))
      | ((with_reducible refine at_storeX 2 26 ?_); refine L_store_all 26 _ _ (w.heap.size) (hc (hz)) _ 26 rfl rfl b_r (szH hz) rfl (one_hc _) ?_; clear b_r; intro w3 t_ b_r; replace b_h := t_.blk b_h (Nat.ne_of_gt o_r_h); replace hB := t_.below hB l_hB_r; clear t_))
    exact bodyPost_ret (results_blk_tmp rfl _ (hc hz) (.int .i64 2) _ rfl rfl b_r Try.underlying26 rfl (szH hz)) rfl ⟨rfl, hB⟩
set_option maxRecDepth 10000 in
set_option maxHeartbeats 2000000 in
theorem rtake_s (s : ByteArray) (w : World) (hs : ((s.size : Nat) : Int) ≠ 48) : Calls Try.prog 15 #[.string s] w fun e w' => e = .returned (.tuple #[.agg (hc hz).toArray, .int .i64 5]) ∧ Below w.heap.size w w' := by
  go_enter Try.func15, Try.ntmps15
  (try simp only [List.append_eq, List.cons_append, List.nil_append])
  go_wp2_with (first
    | ((with_reducible refine at_allocD 2 26 ?_); refine L_alloc 26 (hc (hz)) zeroH ?_; intro w1 t_ b_r; have l_hB_r : w.heap.size ≤ w.heap.size := Nat.le_refl _; have hB : Below w.heap.size w w1 := t_.below (Below.refl _ _) (Nat.le_refl _); clear t_; (try simp only [Act.put, List.setIfInBounds_toArray, List.set_cons_zero, List.set_cons_succ]))
    | ((with_reducible refine at_callD 6 ?_); refine L_give (by rfl) (g_slen _ _ _ rfl rfl ?_); (try simp only [Act.put, List.setIfInBounds_toArray, List.set_cons_zero, List.set_cons_succ]))
    | ((with_reducible refine at_binD 7 ?_); refine L_give (by rfl) (g_ine 3 _ _ .i64 _ _ true rfl rfl (decide_eq_true hs) ?_); (try simp only [Act.put, List.setIfInBounds_toArray, List.set_cons_zero, List.set_cons_succ]))
    | ((with_reducible refine at_bld 8 ?_); refine L_give (by rfl) (g_bldH0 ?_); (try simp only [Act.put, List.setIfInBounds_toArray, List.set_cons_zero, List.set_cons_succ]))
    | ((with_reducible refine at_storeX 2 26 ?_); refine L_store_all 26 _ _ (w.heap.size) (hc (hz)) _ 26 rfl rfl b_r (szH hz) rfl (one_hc _) ?_; clear b_r; intro w2 t_ b_r; replace hB := t_.below hB l_hB_r; clear t_))
  exact bodyPost_ret (results_blk_tmp rfl _ (hc hz) (.int .i64 5) _ rfl rfl b_r Try.underlying26 rfl (szH hz)) rfl ⟨rfl, hB⟩
theorem u8_small (n : Int) (h0 : 0 ≤ n) (h1 : n < 256) : IntKind.u8.wrap n = n := by
  simp [IntKind.wrap, IntKind.bits, IntKind.signed]; omega
theorem rhtake_any (s : ByteArray) (G : Hd) (E : Int) (w : World) (h : Hid (tk s = (G, E))) : Calls Try.prog 15 #[.string s] w fun e w' => e = .returned (.tuple #[.agg (hc G).toArray, .int .i64 E]) ∧ Below w.heap.size w w' := by
  have h := h.out
  have hl := Lib.size_eq s
  unfold tk at h
  split at h
  · rename_i hs
    have b0 := (s.data.toList.getD 0 0).toNat_lt
    obtain ⟨i1, i2, i3, i4, i5, i6, i7, i8, i9, i10, i11, i12, i13⟩ := dec_in s.data.toList
    have w64 : ∀ n : Int, In64 n → IntKind.i64.wrap n = n := fun n hn => wrap_i64 n hn.1 hn.2
    have u32 : ∀ n : Int, InU32 n → IntKind.u32.wrap n = n := fun n hn => wraps_u32 n hn.1 (by have := hn.2; omega)
    have q1 : IntKind.u8.wrap (((s.data.toList.getD 0 0).toNat : Int).tdiv 64) = (dec s.data.toList).le := by
      rw [Int.tdiv_eq_ediv_of_nonneg (by omega), u8_small _ (by omega) (by omega)]; simp only [dec]; omega
    have q0 : IntKind.u8.wrap (((s.data.toList.getD 0 0).toNat : Int).tdiv 8) = (((s.data.toList.getD 0 0).toNat / 8 : Nat) : Int) := by
      rw [Int.tdiv_eq_ediv_of_nonneg (by omega), u8_small _ (by omega) (by omega)]; omega
    have q2 : ((((s.data.toList.getD 0 0).toNat / 8 : Nat) : Int)).tmod 8 = (dec s.data.toList).ve := by
      rw [Int.tmod_eq_emod_of_nonneg (by omega)]; simp only [dec]; omega
    have q3 : (((s.data.toList.getD 0 0).toNat : Int)).tmod 8 = (dec s.data.toList).mo := by
      rw [Int.tmod_eq_emod_of_nonneg (by omega)]; simp only [dec]; omega
    split at h
    · rename_i hv
      obtain ⟨rfl, rfl⟩ := Prod.mk.inj h
      exact rtake_t s _ _ _ _ (dec s.data.toList).le (((s.data.toList.getD 0 0).toNat / 8 : Nat) : Int) (dec s.data.toList).ve (dec s.data.toList).mo (dec s.data.toList).st (dec s.data.toList).po (dec s.data.toList).pr (dec s.data.toList).de (dec s.data.toList).di (dec s.data.toList).ident (dec s.data.toList).re (dec s.data.toList).og (dec s.data.toList).rc (dec s.data.toList).tr w hs (hd_ext _ 0 (by omega)) (hd_ext _ 1 (by omega)) (hd_ext _ 2 (by omega)) (hd_ext _ 3 (by omega)) q1 (w64 _ i1) q0 q2 (w64 _ i2) q3 (w64 _ i3) (w64 _ i4) rfl rfl rfl (u32 _ i7) rfl (u32 _ i8) rfl (u32 _ i9) rfl rfl rfl rfl hv
    · rename_i hv
      obtain ⟨rfl, rfl⟩ := Prod.mk.inj h
      exact rtake_f s _ _ _ _ (dec s.data.toList).le (((s.data.toList.getD 0 0).toNat / 8 : Nat) : Int) (dec s.data.toList).ve (dec s.data.toList).mo (dec s.data.toList).st (dec s.data.toList).po (dec s.data.toList).pr (dec s.data.toList).de (dec s.data.toList).di (dec s.data.toList).ident (dec s.data.toList).re (dec s.data.toList).og (dec s.data.toList).rc (dec s.data.toList).tr w hs (hd_ext _ 0 (by omega)) (hd_ext _ 1 (by omega)) (hd_ext _ 2 (by omega)) (hd_ext _ 3 (by omega)) q1 (w64 _ i1) q0 q2 (w64 _ i2) q3 (w64 _ i3) (w64 _ i4) rfl rfl rfl (u32 _ i7) rfl (u32 _ i8) rfl (u32 _ i9) rfl rfl rfl rfl hv
  · rename_i hs
    obtain ⟨rfl, rfl⟩ := Prod.mk.inj h
    exact rtake_s s w (by omega)
end Go.Proofs.Yteieacamokoejaa
