/- What the reference's Put answers: as the program's does. -/
import Derived.Test.YteieacamokoejaaHda
import Derived.Test.YteieacamokoejaaRegL
namespace Go.Proofs.Yteieacamokoejaa
open Go Go.RowKit
set_option linter.unusedVariables false
set_option linter.unusedSimpArgs false

theorem rput_x (x : Int) (c : Nat) (S : ByteArray) (w : World) (hc : c ≤ 8) (h0 : 0 ≤ x) (h1 : x < 18446744073709551616) (hS : Hid ((⟨(putL x.toNat c).toArray⟩ : ByteArray) = S)) : Calls Try.prog 30 #[.int .u64 x, .int .i64 c] w fun e w' => e = .returned (.string S) ∧ Below w.heap.size w w' := by
  rw [← hS.out]
  have h := rput_any x.toNat c c w (.inr (.inl ⟨by omega, by omega, rfl⟩)) (by omega)
  rwa [Int.toNat_of_nonneg h0] at h
section
variable {P : Program} {ops : Array Oper} {rest : List Oper} {a : Act} {w : World} {Q : Exit → Act → World → Prop} {dst : Option Tmp} {ty yt : TypeId} {pos : String} {aft : Array Edge} {gd : Option (Nat × Bool)} {K : Value → World → Prop}
theorem run_bsl4 (w : World) (b0 b1 b2 b3 : UInt8) : (Instr.buildSlice 53 4 #[(0, .int .u8 b0.toNat), (1, .int .u8 b1.toNat), (2, .int .u8 b2.toNat), (3, .int .u8 b3.toNat)]).run Try.prog w = .ok (.slice (some ⟨w.heap.size, 0, none⟩) 4 4) (w.alloc (.cells (bc [b0, b1, b2, b3]).toArray 5)) := by
  unfold bc
  simp only [List.map_cons, List.map_nil]
  go_simp
theorem g_bsl4 (x0 x1 x2 x3 : Operand) (b0 b1 b2 b3 : UInt8) (h0 : a.eval x0 = .int .u8 b0.toNat) (h1 : a.eval x1 = .int .u8 b1.toNat) (h2 : a.eval x2 = .int .u8 b2.toNat) (h3 : a.eval x3 = .int .u8 b3.toNat) (hk : ∀ w', Turn w.heap.size w w' → Blk w' w.heap.size (bc [b0, b1, b2, b3]) 5 → K (.slice (some ⟨w.heap.size, 0, none⟩) 4 4) w') : gives Try.prog ⟨dst, .buildSlice 53 4 #[(0, x0), (1, x1), (2, x2), (3, x3)], ty, pos, aft, gd⟩ a w K := by
  obtain ⟨t1, t2⟩ := turn_alloc w (bc [b0, b1, b2, b3]) 5
  unfold gives
  simp only [execOp, List.map_toArray, List.map_cons, List.map_nil, h0, h1, h2, h3, Sem.run_bind, run_bsl4, Result.andThen_ok, Sem.run_pure]
  exact hk _ t1 t2
theorem g_str4 (x : Operand) (p : Nat) (b0 b1 b2 b3 : UInt8) (hx : a.eval x = .slice (some ⟨p, 0, none⟩) 4 4) (hb : Blk w p (bc [b0, b1, b2, b3]) 5) (hk : K (.string ⟨#[b0, b1, b2, b3]⟩) w) : gives Try.prog ⟨dst, .convert 53 9 x, ty, pos, aft, gd⟩ a w K := by
  have h := run_convert_bytes_back (P := Try.prog) w 53 9 5 ⟨p, 0, none⟩ 4 [b0, b1, b2, b3] Try.underlying53 Try.underlying5 Try.underlying9 (fun j hj => by
    rw [Addr.add_mid, hb.at, Nat.zero_add]
    simp only [bc, List.getElem?_map, List.getElem?_eq_getElem hj, Option.map_some])
  have h' : (convert 53 9 (.slice (some ⟨p, 0, none⟩) 4 4)).run Try.prog w = .ok (.string ⟨#[b0, b1, b2, b3]⟩) w := h
  unfold gives
  simp only [execOp, hx, Sem.run_bind, Sem.run_pure, h', Result.andThen_ok]
  exact hk
end
theorem wrap_u8 (n : Int) : IntKind.u8.wrap n = ((ib n).toNat : Int) := by
  rw [ib_nat]; simp [IntKind.wrap, IntKind.bits, IntKind.signed]
theorem by256 (n : Int) (h0 : -128 ≤ n) (h1 : n ≤ 127) : ∃ p q : Int, IntKind.i64.wrap (n + 256) = p ∧ p.tmod 256 = q ∧ IntKind.u8.wrap q = ((ib n).toNat : Int) := by
  refine ⟨n + 256, (n + 256) % 256, wrap_i64 _ (by omega) (by omega), Int.tmod_eq_emod_of_nonneg (by omega), ?_⟩
  rw [wrap_u8, ib_nat, ib_nat]; omega
set_option maxRecDepth 10000 in
set_option maxHeartbeats 2000000 in
theorem rhput_w (h : Hd) (p1 p2 q1 O : Int) (u2 v2 u3 v3 : Int) (c0 c1 c2 c3 : UInt8) (d0 d1 d2 : Int) (X A B C D F Y : ByteArray) (A2 B2 C2 D2 Z1 Z2 Z3 Z : ByteArray) (w : World) (hm : Hid (may h = true))
    (e1 : Hid (IntKind.i64.wrap (64 * h.le) = p1)) (e2 : Hid (IntKind.i64.wrap (8 * h.ve) = p2)) (e3 : Hid (IntKind.i64.wrap (p1 + p2) = q1)) (e4 : Hid (IntKind.i64.wrap (q1 + h.mo) = O)) (e5 : Hid (IntKind.u8.wrap O = (c0.toNat : Int))) (e6 : Hid (IntKind.u8.wrap h.st = (c1.toNat : Int)))
    (e7 : Hid (IntKind.i64.wrap (h.po + 256) = u2)) (e8 : Hid (u2.tmod 256 = v2)) (e9 : Hid (IntKind.u8.wrap v2 = (c2.toNat : Int))) (f7 : Hid (IntKind.i64.wrap (h.pr + 256) = u3)) (f8 : Hid (u3.tmod 256 = v3)) (f9 : Hid (IntKind.u8.wrap v3 = (c3.toNat : Int)))
    (hX : Hid ((⟨#[c0, c1, c2, c3]⟩ : ByteArray) = X)) (g0 : Hid (IntKind.u64.wrap h.de = d0)) (g1 : Hid (IntKind.u64.wrap h.di = d1)) (g2 : Hid (IntKind.u64.wrap h.ident = d2)) (k0 : InU64 d0) (k1 : InU64 d1) (k2 : InU64 d2) (j0 : InU64 h.re) (j1 : InU64 h.og) (j2 : InU64 h.rc) (j3 : InU64 h.tr)
    (s0 : Hid ((⟨(putL d0.toNat 4).toArray⟩ : ByteArray) = A)) (s1 : Hid ((⟨(putL d1.toNat 4).toArray⟩ : ByteArray) = B)) (s2 : Hid ((⟨(putL d2.toNat 4).toArray⟩ : ByteArray) = C)) (a1 : Hid (A ++ B = D)) (a2 : Hid (D ++ C = F)) (a3 : Hid (X ++ F = Y)) (zA : A.size = 4) (zB : B.size = 4) (zC : C.size = 4) (zD : D.size = 8) (zF : F.size = 12) (zX : X.size = 4) (zY : Y.size = 16)
    (s3 : Hid ((⟨(putL h.re.toNat 8).toArray⟩ : ByteArray) = A2)) (s4 : Hid ((⟨(putL h.og.toNat 8).toArray⟩ : ByteArray) = B2)) (s5 : Hid ((⟨(putL h.rc.toNat 8).toArray⟩ : ByteArray) = C2)) (s6 : Hid ((⟨(putL h.tr.toNat 8).toArray⟩ : ByteArray) = D2)) (zA2 : A2.size = 8) (zB2 : B2.size = 8) (zC2 : C2.size = 8) (zD2 : D2.size = 8) (b1 : Hid (Y ++ A2 = Z1)) (b2 : Hid (Z1 ++ B2 = Z2)) (b3 : Hid (Z2 ++ C2 = Z3)) (b4 : Hid (Z3 ++ D2 = Z)) (zZ1 : Z1.size = 24) (zZ2 : Z2.size = 32) (zZ3 : Z3.size = 40) : Calls Try.prog 13 #[.agg (hc h).toArray] w fun e w' => e = .returned (.tuple #[.string Z, .int .i64 0]) ∧ Below w.heap.size w w' := by
  go_enter Try.func13, Try.ntmps13
  go_wp2_with (first
    | ((with_reducible refine at_boxD 1 26 ?_); refine L_box 26 _ (hc (h)) rfl ?_; intro w1 t_ b_h; have l_hB_h : w.heap.size ≤ w.heap.size := Nat.le_refl _; have hB : Below w.heap.size w w1 := t_.below (Below.refl _ _) (Nat.le_refl _); clear t_; (try simp only [Act.put, List.setIfInBounds_toArray, List.set_cons_zero, List.set_cons_succ]))
    | ((with_reducible refine at_loadD 5 26 ?_); refine L_give (by rfl) (g_load_all 26 _ (w.heap.size) (hc (h)) 26 _ rfl (b_h) Try.underlying26 rfl (szH hz) ?_); (try simp only [Act.put, List.setIfInBounds_toArray, List.set_cons_zero, List.set_cons_succ]))
    | ((with_reducible refine at_callD 6 ?_); refine L_give (by rfl) (g_call 17 _ _ [.agg (hc (h)).toArray] (kf17 _ _) rfl ((rmay_any h true w1 hm).mono ?_)); rintro e w2 ⟨rfl, t_⟩; refine ⟨_, rfl, ?_⟩; replace b_h := b_h.below t_ b_h.lt; replace hB := hB.trans (t_.mono hB.size); clear t_; (try simp only [Act.put, List.setIfInBounds_toArray, List.set_cons_zero, List.set_cons_succ]))
    | ((with_reducible refine at_loadD 9 3 ?_); refine L_give (by rfl) (g_cell3 _ (w.heap.size) 0 _ rfl ((b_h).cell 0 _ rfl) ?_); (try simp only [Act.put, List.setIfInBounds_toArray, List.set_cons_zero, List.set_cons_succ]))
    | ((with_reducible refine at_binD 10 ?_); refine L_give (by rfl) (g_imul 3 _ _ .i64 _ _ p1 rfl rfl e1.out ?_); (try simp only [Act.put, List.setIfInBounds_toArray, List.set_cons_zero, List.set_cons_succ]))
    | ((with_reducible refine at_loadD 12 3 ?_); refine L_give (by rfl) (g_cell3 _ (w.heap.size) 1 _ rfl ((b_h).cell 1 _ rfl) ?_); (try simp only [Act.put, List.setIfInBounds_toArray, List.set_cons_zero, List.set_cons_succ]))
    | ((with_reducible refine at_binD 13 ?_); refine L_give (by rfl) (g_imul 3 _ _ .i64 _ _ p2 rfl rfl e2.out ?_); (try simp only [Act.put, List.setIfInBounds_toArray, List.set_cons_zero, List.set_cons_succ]))
    | ((with_reducible refine at_binD 14 ?_); refine L_give (by rfl) (g_iadd 3 _ _ .i64 _ _ q1 rfl rfl e3.out ?_); (try simp only [Act.put, List.setIfInBounds_toArray, List.set_cons_zero, List.set_cons_succ]))
    | ((with_reducible refine at_loadD 16 3 ?_); refine L_give (by rfl) (g_cell3 _ (w.heap.size) 2 _ rfl ((b_h).cell 2 _ rfl) ?_); (try simp only [Act.put, List.setIfInBounds_toArray, List.set_cons_zero, List.set_cons_succ]))
    | ((with_reducible refine at_binD 17 ?_); refine L_give (by rfl) (g_iadd 3 _ _ .i64 _ _ O rfl rfl e4.out ?_); (try simp only [Act.put, List.setIfInBounds_toArray, List.set_cons_zero, List.set_cons_succ]))
    | ((with_reducible refine at_cnv 18 ?_); refine L_give (by rfl) (g_cv_3_5 _ _ _ rfl e5.out ?_); (try simp only [Act.put, List.setIfInBounds_toArray, List.set_cons_zero, List.set_cons_succ]))
    | ((with_reducible refine at_loadD 20 3 ?_); refine L_give (by rfl) (g_cell3 _ (w.heap.size) 3 _ rfl ((b_h).cell 3 _ rfl) ?_); (try simp only [Act.put, List.setIfInBounds_toArray, List.set_cons_zero, List.set_cons_succ]))
    | ((with_reducible refine at_cnv 21 ?_); refine L_give (by rfl) (g_cv_3_5 _ _ _ rfl e6.out ?_); (try simp only [Act.put, List.setIfInBounds_toArray, List.set_cons_zero, List.set_cons_succ]))
    | ((with_reducible refine at_loadD 23 3 ?_); refine L_give (by rfl) (g_cell3 _ (w.heap.size) 4 _ rfl ((b_h).cell 4 _ rfl) ?_); (try simp only [Act.put, List.setIfInBounds_toArray, List.set_cons_zero, List.set_cons_succ]))
    | ((with_reducible refine at_binD 24 ?_); refine L_give (by rfl) (g_iadd 3 _ _ .i64 _ _ u2 rfl rfl e7.out ?_); (try simp only [Act.put, List.setIfInBounds_toArray, List.set_cons_zero, List.set_cons_succ]))
    | ((with_reducible refine at_binD 25 ?_); refine L_give (by rfl) (g_irem 3 _ _ .i64 _ _ v2 rfl rfl (by decide) e8.out ?_); (try simp only [Act.put, List.setIfInBounds_toArray, List.set_cons_zero, List.set_cons_succ]))
    | ((with_reducible refine at_cnv 26 ?_); refine L_give (by rfl) (g_cv_3_5 _ _ _ rfl e9.out ?_); (try simp only [Act.put, List.setIfInBounds_toArray, List.set_cons_zero, List.set_cons_succ]))
    | ((with_reducible refine at_loadD 28 3 ?_); refine L_give (by rfl) (g_cell3 _ (w.heap.size) 5 _ rfl ((b_h).cell 5 _ rfl) ?_); (try simp only [Act.put, List.setIfInBounds_toArray, List.set_cons_zero, List.set_cons_succ]))
    | ((with_reducible refine at_binD 29 ?_); refine L_give (by rfl) (g_iadd 3 _ _ .i64 _ _ u3 rfl rfl f7.out ?_); (try simp only [Act.put, List.setIfInBounds_toArray, List.set_cons_zero, List.set_cons_succ]))
    | ((with_reducible refine at_binD 30 ?_); refine L_give (by rfl) (g_irem 3 _ _ .i64 _ _ v3 rfl rfl (by decide) f8.out ?_); (try simp only [Act.put, List.setIfInBounds_toArray, List.set_cons_zero, List.set_cons_succ]))
    | ((with_reducible refine at_cnv 31 ?_); refine L_give (by rfl) (g_cv_3_5 _ _ _ rfl f9.out ?_); (try simp only [Act.put, List.setIfInBounds_toArray, List.set_cons_zero, List.set_cons_succ]))
    | ((with_reducible refine at_bslD 32 ?_); refine L_give (by rfl) (g_bsl4 _ _ _ _ c0 c1 c2 c3 rfl rfl rfl rfl ?_); intro w3 t_ b_n; have o_h_n := b_h.lt; have l_hB_n : _ ≤ w2.heap.size := hB.size; replace b_h := t_.blk b_h (Nat.ne_of_lt b_h.lt); replace hB := t_.below hB l_hB_n; clear t_; (try simp only [Act.put, List.setIfInBounds_toArray, List.set_cons_zero, List.set_cons_succ]))
    | ((with_reducible refine at_cnv 33 ?_); refine L_give (by rfl) (g_str4 _ _ c0 c1 c2 c3 rfl b_n ?_); rw [hX.out]; (try simp only [Act.put, List.setIfInBounds_toArray, List.set_cons_zero, List.set_cons_succ]))
    | (refine stop_region 4 ?_; intro X hX))
  refine hX.out ?_
  clear hX X
  refine wp_region_lateF 16 (by kernel_rfl) (by kernel_rfl) (by rfl) [.string (X), .pointer (some ⟨w.heap.size, 6, none⟩), .int .u32 (h.de), .int .u64 (d0), .string (A), .pointer (some ⟨w.heap.size, 7, none⟩), .int .u32 (h.di), .int .u64 (d1), .string (B), .string (D), .pointer (some ⟨w.heap.size, 8, none⟩), .int .u32 (h.ident), .int .u64 (d2), .string (C), .string (F), .string (Y), .string (Y)] (by rfl) (fun w' => Below w3.heap.size w3 w') (Below.refl _ _).drew ?_ ?_
  · simp only [List.take_succ_cons, List.take_zero, fullL, Act.put, List.setIfInBounds_toArray, List.set_cons_succ, List.set_cons_zero]
    intro i o ho wx hw
    rcases i with _ | _ | _ | _ | _ | _ | _ | _ | _ | _ | _ | _ | _ | _ | _ | _ | _ | i
    · obtain rfl := Option.some.inj ho; exact g_move _ _ rfl ⟨rfl, hw⟩
    · obtain rfl := Option.some.inj ho; exact g_fH _ _ 6 6 rfl (by go_simp) ⟨rfl, hw⟩
    · obtain rfl := Option.some.inj ho; exact g_cell22 _ (w.heap.size) 6 _ rfl (((b_h.below hw b_h.lt)).cell 6 _ rfl) ⟨rfl, hw⟩
    · obtain rfl := Option.some.inj ho; exact g_cv_22_23 _ _ _ rfl g0.out ⟨rfl, hw⟩
    · obtain rfl := Option.some.inj ho; exact g_call 30 _ _ [.int .u64 (d0), .int .i64 (4)] (kf30 _ _) rfl ((rput_x d0 4 A wx (by decide) k0.1 k0.2 s0).mono fun _ _ ⟨h1, h2⟩ => ⟨_, h1, rfl, hw.trans (h2.mono hw.size)⟩)
    · obtain rfl := Option.some.inj ho; exact g_fH _ _ 7 7 rfl (by go_simp) ⟨rfl, hw⟩
    · obtain rfl := Option.some.inj ho; exact g_cell22 _ (w.heap.size) 7 _ rfl (((b_h.below hw b_h.lt)).cell 7 _ rfl) ⟨rfl, hw⟩
    · obtain rfl := Option.some.inj ho; exact g_cv_22_23 _ _ _ rfl g1.out ⟨rfl, hw⟩
    · obtain rfl := Option.some.inj ho; exact g_call 30 _ _ [.int .u64 (d1), .int .i64 (4)] (kf30 _ _) rfl ((rput_x d1 4 B wx (by decide) k1.1 k1.2 s1).mono fun _ _ ⟨h1, h2⟩ => ⟨_, h1, rfl, hw.trans (h2.mono hw.size)⟩)
    · obtain rfl := Option.some.inj ho; exact g_sadd 9 _ _ A B D rfl rfl a1.out (by omega) ⟨rfl, hw⟩
    · obtain rfl := Option.some.inj ho; exact g_fH _ _ 8 8 rfl (by go_simp) ⟨rfl, hw⟩
    · obtain rfl := Option.some.inj ho; exact g_cell22 _ (w.heap.size) 8 _ rfl (((b_h.below hw b_h.lt)).cell 8 _ rfl) ⟨rfl, hw⟩
    · obtain rfl := Option.some.inj ho; exact g_cv_22_23 _ _ _ rfl g2.out ⟨rfl, hw⟩
    · obtain rfl := Option.some.inj ho; exact g_call 30 _ _ [.int .u64 (d2), .int .i64 (4)] (kf30 _ _) rfl ((rput_x d2 4 C wx (by decide) k2.1 k2.2 s2).mono fun _ _ ⟨h1, h2⟩ => ⟨_, h1, rfl, hw.trans (h2.mono hw.size)⟩)
    · obtain rfl := Option.some.inj ho; exact g_sadd 9 _ _ D C F rfl rfl a2.out (by omega) ⟨rfl, hw⟩
    · obtain rfl := Option.some.inj ho; exact g_sadd 9 _ _ X F Y rfl rfl a3.out (by omega) ⟨rfl, hw⟩
    · obtain rfl := Option.some.inj ho; exact g_assign _ _ rfl ⟨rfl, hw⟩
    · simp at ho
  · simp only [fullL, Act.put, List.setIfInBounds_toArray, List.set_cons_succ, List.set_cons_zero]
    intro w4 t_
    replace b_h := b_h.below t_ b_h.lt
    replace b_n := b_n.below t_ b_n.lt
    replace hB := hB.trans (t_.mono hB.size)
    clear t_
    go_wp2_with (first
      | (refine stop_region 5 ?_; intro X hX))
    refine hX.out ?_
    clear hX X
    refine wp_region_fixed (by kernel_rfl) (by kernel_rfl) [.string (Y), .pointer (some ⟨w.heap.size, 9, none⟩), .int .u64 (h.re), .string (A2), .string (Z1), .pointer (some ⟨w.heap.size, 10, none⟩), .int .u64 (h.og), .string (B2), .string (Z2), .pointer (some ⟨w.heap.size, 11, none⟩), .int .u64 (h.rc), .string (C2), .string (Z3), .pointer (some ⟨w.heap.size, 12, none⟩), .int .u64 (h.tr), .string (D2), .string (Z), .string (Z), .int .i64 (0)] (by rfl) (fun w' => Below w4.heap.size w4 w') (Below.refl _ _).drew ?_ ?_
    · simp only [fullL, Act.put, List.setIfInBounds_toArray, List.set_cons_succ, List.set_cons_zero]
      refine ⟨?_, ?_, ?_, ?_, ?_, ?_, ?_, ?_, ?_, ?_, ?_, ?_, ?_, ?_, ?_, ?_, ?_, ?_, ?_, trivial⟩
      · exact fun wx hw => gw rfl (g_move _ _ rfl ⟨rfl, hw⟩)
      · exact fun wx hw => gw rfl (g_fH _ _ 9 9 rfl (by go_simp) ⟨rfl, hw⟩)
      · exact fun wx hw => gw rfl (g_cell24 _ (w.heap.size) 9 _ rfl (((b_h.below hw b_h.lt)).cell 9 _ rfl) ⟨rfl, hw⟩)
      · exact fun wx hw => gw rfl (g_call 30 _ _ [.int .u64 (h.re), .int .i64 (8)] (kf30 _ _) rfl (mono_val hw (rput_x h.re 8 A2 wx (by decide) j0.1 j0.2 s3)))
      · exact fun wx hw => gw rfl (g_sadd 9 _ _ Y A2 Z1 rfl rfl b1.out (by omega) ⟨rfl, hw⟩)
      · exact fun wx hw => gw rfl (g_fH _ _ 10 10 rfl (by go_simp) ⟨rfl, hw⟩)
      · exact fun wx hw => gw rfl (g_cell24 _ (w.heap.size) 10 _ rfl (((b_h.below hw b_h.lt)).cell 10 _ rfl) ⟨rfl, hw⟩)
      · exact fun wx hw => gw rfl (g_call 30 _ _ [.int .u64 (h.og), .int .i64 (8)] (kf30 _ _) rfl (mono_val hw (rput_x h.og 8 B2 wx (by decide) j1.1 j1.2 s4)))
      · exact fun wx hw => gw rfl (g_sadd 9 _ _ Z1 B2 Z2 rfl rfl b2.out (by omega) ⟨rfl, hw⟩)
      · exact fun wx hw => gw rfl (g_fH _ _ 11 11 rfl (by go_simp) ⟨rfl, hw⟩)
      · exact fun wx hw => gw rfl (g_cell24 _ (w.heap.size) 11 _ rfl (((b_h.below hw b_h.lt)).cell 11 _ rfl) ⟨rfl, hw⟩)
      · exact fun wx hw => gw rfl (g_call 30 _ _ [.int .u64 (h.rc), .int .i64 (8)] (kf30 _ _) rfl (mono_val hw (rput_x h.rc 8 C2 wx (by decide) j2.1 j2.2 s5)))
      · exact fun wx hw => gw rfl (g_sadd 9 _ _ Z2 C2 Z3 rfl rfl b3.out (by omega) ⟨rfl, hw⟩)
      · exact fun wx hw => gw rfl (g_fH _ _ 12 12 rfl (by go_simp) ⟨rfl, hw⟩)
      · exact fun wx hw => gw rfl (g_cell24 _ (w.heap.size) 12 _ rfl (((b_h.below hw b_h.lt)).cell 12 _ rfl) ⟨rfl, hw⟩)
      · exact fun wx hw => gw rfl (g_call 30 _ _ [.int .u64 (h.tr), .int .i64 (8)] (kf30 _ _) rfl (mono_val hw (rput_x h.tr 8 D2 wx (by decide) j3.1 j3.2 s6)))
      · exact fun wx hw => gw rfl (g_sadd 9 _ _ Z3 D2 Z rfl rfl b4.out (by omega) ⟨rfl, hw⟩)
      · exact fun wx hw => gw rfl (g_assign _ _ rfl ⟨rfl, hw⟩)
      · exact fun wx hw => gw rfl (g_assign _ _ rfl ⟨rfl, hw⟩)
    · simp only [fullL, Act.put, List.setIfInBounds_toArray, List.set_cons_succ, List.set_cons_zero]
      intro w5 t_
      replace b_h := b_h.below t_ b_h.lt
      replace b_n := b_n.below t_ b_n.lt
      replace hB := hB.trans (t_.mono hB.size)
      clear t_
      go_wp2_with fail
      go_ret2
      exact ⟨rfl, hB⟩
set_option maxRecDepth 10000 in
set_option maxHeartbeats 2000000 in
theorem rhput_f (h : Hd) (w : World) (hm : Hid (may h = false)) : Calls Try.prog 13 #[.agg (hc h).toArray] w fun e w' => e = .returned (.tuple #[.string ByteArray.empty, .int .i64 2]) ∧ Below w.heap.size w w' := by
  go_enter Try.func13, Try.ntmps13
  go_wp2_with (first
    | ((with_reducible refine at_boxD 1 26 ?_); refine L_box 26 _ (hc (h)) rfl ?_; intro w1 t_ b_h; have l_hB_h : w.heap.size ≤ w.heap.size := Nat.le_refl _; have hB : Below w.heap.size w w1 := t_.below (Below.refl _ _) (Nat.le_refl _); clear t_; (try simp only [Act.put, List.setIfInBounds_toArray, List.set_cons_zero, List.set_cons_succ]))
    | ((with_reducible refine at_loadD 5 26 ?_); refine L_give (by rfl) (g_load_all 26 _ (w.heap.size) (hc (h)) 26 _ rfl (b_h) Try.underlying26 rfl (szH hz) ?_); (try simp only [Act.put, List.setIfInBounds_toArray, List.set_cons_zero, List.set_cons_succ]))
    | ((with_reducible refine at_callD 6 ?_); refine L_give (by rfl) (g_call 17 _ _ [.agg (hc (h)).toArray] (kf17 _ _) rfl ((rmay_any h false w1 hm).mono ?_)); rintro e w2 ⟨rfl, t_⟩; refine ⟨_, rfl, ?_⟩; replace b_h := b_h.below t_ b_h.lt; replace hB := hB.trans (t_.mono hB.size); clear t_; (try simp only [Act.put, List.setIfInBounds_toArray, List.set_cons_zero, List.set_cons_succ])))
  go_ret2
  exact ⟨rfl, hB⟩
theorem rhput_any (h : Hd) (S : ByteArray) (E : Int) (w : World) (hi : InH h) (hp : Hid (pt h = (S, E))) : Calls Try.prog 13 #[.agg (hc h).toArray] w fun e w' => e = .returned (.tuple #[.string S, .int .i64 E]) ∧ Below w.heap.size w w' := by
  have hp := hp.out
  unfold pt at hp
  split at hp
  · rename_i hm
    obtain ⟨rfl, rfl⟩ := Prod.mk.inj hp
    obtain ⟨m1, m2, m3, m4, m5, m6⟩ := of_decide_eq_true hm
    obtain ⟨u2, v2, x1, x2, x3⟩ := by256 h.po m5.1 m5.2
    obtain ⟨u3, v3, y1, y2, y3⟩ := by256 h.pr m6.1 m6.2
    have u : ∀ n : Int, InU32 n → IntKind.u64.wrap n = n ∧ InU64 n := fun n hn => ⟨wraps_u64 n hn.1 (by have := hn.2; omega), hn.1, by have := hn.2; omega⟩
    have k := rhput_w h (64 * h.le) (8 * h.ve) (64 * h.le + 8 * h.ve) (64 * h.le + 8 * h.ve + h.mo) u2 v2 u3 v3 (ib (64 * h.le + 8 * h.ve + h.mo)) (ib h.st) (ib h.po) (ib h.pr) h.de h.di h.ident _ _ _ _ _ _ _ _ _ _ _ _ _ _ _ w hm
      (wrap_i64 _ (by omega) (by omega)) (wrap_i64 _ (by omega) (by omega)) (wrap_i64 _ (by omega) (by omega)) (wrap_i64 _ (by omega) (by omega)) (wrap_u8 _) (wrap_u8 _) x1 x2 x3 y1 y2 y3 rfl (u _ hi.de).1 (u _ hi.di).1 (u _ hi.ident).1 (u _ hi.de).2 (u _ hi.di).2 (u _ hi.ident).2 hi.re hi.og hi.rc hi.tr
      rfl rfl rfl (ba_app _ _) (ba_app _ _) (ba_app [ib (64 * h.le + 8 * h.ve + h.mo), ib h.st, ib h.po, ib h.pr] _) (by simp only [size_toArray, List.length_append, putL_length, List.length_cons, List.length_nil]) (by simp only [size_toArray, List.length_append, putL_length, List.length_cons, List.length_nil]) (by simp only [size_toArray, List.length_append, putL_length, List.length_cons, List.length_nil]) (by simp only [size_toArray, List.length_append, putL_length, List.length_cons, List.length_nil]) (by simp only [size_toArray, List.length_append, putL_length, List.length_cons, List.length_nil]) rfl (by simp only [size_toArray, List.length_append, putL_length, List.length_cons, List.length_nil]) rfl rfl rfl rfl (by simp only [size_toArray, List.length_append, putL_length, List.length_cons, List.length_nil]) (by simp only [size_toArray, List.length_append, putL_length, List.length_cons, List.length_nil]) (by simp only [size_toArray, List.length_append, putL_length, List.length_cons, List.length_nil]) (by simp only [size_toArray, List.length_append, putL_length, List.length_cons, List.length_nil]) (ba_app _ _) (ba_app _ _) (ba_app _ _) (ba_app _ _) (by simp only [size_toArray, List.length_append, putL_length, List.length_cons, List.length_nil]) (by simp only [size_toArray, List.length_append, putL_length, List.length_cons, List.length_nil]) (by simp only [size_toArray, List.length_append, putL_length, List.length_cons, List.length_nil])
    simp only [List.append_assoc, List.cons_append, List.nil_append] at k
    exact k
  · rename_i hm
    obtain ⟨rfl, rfl⟩ := Prod.mk.inj hp
    exact rhput_f h w (by show _ = _; simpa using hm)
end Go.Proofs.Yteieacamokoejaa
