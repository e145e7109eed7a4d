/- What the program's head.Put answers: a head's bytes. -/
import Derived.Test.YteieacamokoejaaHd7
import Derived.Test.YteieacamokoejaaShelf
namespace Go.Proofs.Yteieacamokoejaa
open Go Go.RowKit
set_option linter.unusedVariables false

theorem zeroB : ∀ w, (zeroValue 55).run Try.prog w = .ok (.agg ([.pointer none, .slice none 0 0] : List Value).toArray) w := by intro w; kernel_rfl
theorem isb_new {w : World} {b : Nat} (h : Blk w b [.pointer none, .slice none 0 0] 55) : Lib.IsBuilder 55 5 b b (Lib.byteCells []) w :=
  .inl ⟨Nat.le_refl _, _, h, World.ownsRow_nil w b 5 1, by simp [Value.ownBlock]⟩
theorem isb_below {w w' : World} {b : Nat} {bs : List Value} (h : Lib.IsBuilder 55 5 b b bs w) (hb : Below w.heap.size w w') : Lib.IsBuilder 55 5 b b bs w' := by
  have k : ∀ p, Lib.BuilderAt 55 5 b b p bs w → Lib.BuilderAt 55 5 b b p bs w' := by
    intro p h
    have hl := h.lt
    obtain ⟨h1, v, h2, h3, h4⟩ := h
    exact ⟨h1, v, by rw [hb.block b hl]; exact h2, World.ownsRow.kept (row := none) h3 ⟨hb.os, hb.tape, hb.output, hb.size, fun k hk _ => hb.block k hk⟩ (by cases hv : v.ownBlock <;> simp), h4⟩
  rcases h with h | h
  · exact .inl (k _ h)
  · exact .inr (k _ h)
theorem isb_lt {w : World} {b : Nat} {bs : List Value} (h : Lib.IsBuilder 55 5 b b bs w) : b < w.heap.size := by
  rcases h with h | h <;> exact h.lt
theorem put_x (x : Int) (c : Nat) (S : ByteArray) (w : World) (hc : c ≤ 8) (h0 : 0 ≤ x) (hS : Hid ((⟨(putL x.toNat c).toArray⟩ : ByteArray) = S)) : Calls Try.prog 26 #[.int .u64 x, .int .i64 c] w fun e w' => e = .returned (.string S) ∧ Below w.heap.size w w' := by
  have h := put_l x.toNat c S w hc hS
  rwa [Int.toNat_of_nonneg h0] at h
theorem bwrite (b : Nat) (L : List UInt8) (S : ByteArray) (w : World) (h : Lib.IsBuilder 55 5 b b (Lib.byteCells L) w) (hl : L.length + S.size ≤ 1099511627776) : Calls Try.prog 25 #[.pointer (some ⟨b, 0, none⟩), .string S] w fun e w' => e = .returned (.tuple #[.int .i64 S.size, .nilIface]) ∧ Lib.IsBuilder 55 5 b b (Lib.byteCells (L ++ S.data.toList)) w' ∧ Below b w w' := by
  have hc : (Lib.byteCells L).length = L.length := by simp [Lib.byteCells]
  refine (Try.Builder_WriteString b b (Lib.byteCells L) S w h (by rw [hc]; omega) (Nat.le_of_lt (isb_lt h))).mono ?_
  rintro e w' ⟨rfl, h2, h3⟩
  refine ⟨rfl, .inr ?_, h3⟩
  have e : Lib.byteCells (L ++ S.data.toList) = Lib.byteCells L ++ Lib.strCells S := by simp [Lib.byteCells, Lib.strCells]
  rw [e]
  exact h2
set_option maxRecDepth 10000 in
set_option maxHeartbeats 2000000 in
theorem hput_w (h : Hd) (p1 p2 q1 O y0 y1 y2 y3 : Int) (d0 d1 d2 : Int) (S0 : ByteArray) (S1 : ByteArray) (S2 : ByteArray) (S3 : ByteArray) (S4 : ByteArray) (S5 : ByteArray) (S6 : ByteArray) (S7 : ByteArray) (S8 : ByteArray) (S9 : ByteArray) (S10 : ByteArray) (w : World) (hm : Hid (may h = true))
    (e1 : Hid (IntKind.i64.wrap (h.le * 64) = p1)) (e2 : Hid (IntKind.i64.wrap (h.ve * 8) = p2)) (e3 : Hid (bits .or .i64 p1 p2 = q1)) (e4 : Hid (bits .or .i64 q1 h.mo = O))
    (f0 : Hid (IntKind.u64.wrap O = y0)) (n0 : 0 ≤ y0) (f1 : Hid (IntKind.u64.wrap h.st = y1)) (n1 : 0 ≤ y1) (f2 : Hid (IntKind.u64.wrap h.po = y2)) (n2 : 0 ≤ y2) (f3 : Hid (IntKind.u64.wrap h.pr = y3)) (n3 : 0 ≤ y3)
    (g0 : Hid (IntKind.u64.wrap h.de = d0)) (k0 : 0 ≤ d0) (g1 : Hid (IntKind.u64.wrap h.di = d1)) (k1 : 0 ≤ d1) (g2 : Hid (IntKind.u64.wrap h.ident = d2)) (k2 : 0 ≤ d2) (j0 : 0 ≤ h.re) (j1 : 0 ≤ h.og) (j2 : 0 ≤ h.rc) (j3 : 0 ≤ h.tr)
    (s0 : Hid ((⟨(putL y0.toNat 1).toArray⟩ : ByteArray) = S0)) (z0 : S0.size = 1) (s1 : Hid ((⟨(putL y1.toNat 1).toArray⟩ : ByteArray) = S1)) (z1 : S1.size = 1) (s2 : Hid ((⟨(putL y2.toNat 1).toArray⟩ : ByteArray) = S2)) (z2 : S2.size = 1) (s3 : Hid ((⟨(putL y3.toNat 1).toArray⟩ : ByteArray) = S3)) (z3 : S3.size = 1) (s4 : Hid ((⟨(putL d0.toNat 4).toArray⟩ : ByteArray) = S4)) (z4 : S4.size = 4) (s5 : Hid ((⟨(putL d1.toNat 4).toArray⟩ : ByteArray) = S5)) (z5 : S5.size = 4) (s6 : Hid ((⟨(putL d2.toNat 4).toArray⟩ : ByteArray) = S6)) (z6 : S6.size = 4) (s7 : Hid ((⟨(putL (h.re).toNat 8).toArray⟩ : ByteArray) = S7)) (z7 : S7.size = 8) (s8 : Hid ((⟨(putL (h.og).toNat 8).toArray⟩ : ByteArray) = S8)) (z8 : S8.size = 8) (s9 : Hid ((⟨(putL (h.rc).toNat 8).toArray⟩ : ByteArray) = S9)) (z9 : S9.size = 8) (s10 : Hid ((⟨(putL (h.tr).toNat 8).toArray⟩ : ByteArray) = S10)) (z10 : S10.size = 8) : Calls Try.prog 12 #[.agg (hc h).toArray] w fun e w' => e = .returned (.tuple #[.string ⟨(((((((((((([] : List UInt8) ++ S0.data.toList) ++ S1.data.toList) ++ S2.data.toList) ++ S3.data.toList) ++ S4.data.toList) ++ S5.data.toList) ++ S6.data.toList) ++ S7.data.toList) ++ S8.data.toList) ++ S9.data.toList) ++ S10.data.toList).toArray⟩, .int .i64 0]) ∧ Below w.heap.size w w' := by
  go_enter Try.func12, Try.ntmps12
  go_wp2_with (first
    | ((with_reducible refine at_boxD 1 26 ?_); refine L_box 26 _ (hc (h)) rfl ?_; intro w1 t_ b_h; have l_hB_h : w.heap.size ≤ w.heap.size := Nat.le_refl _; have hB : Below w.heap.size w w1 := t_.below (Below.refl _ _) (Nat.le_refl _); clear t_; (try simp only [Act.put, List.setIfInBounds_toArray, List.set_cons_zero, List.set_cons_succ]))
    | ((with_reducible refine at_loadD 12 26 ?_); refine L_give (by rfl) (g_load_all 26 _ (w.heap.size) (hc (h)) 26 _ rfl (b_h) Try.underlying26 rfl (szH hz) ?_); (try simp only [Act.put, List.setIfInBounds_toArray, List.set_cons_zero, List.set_cons_succ]))
    | ((with_reducible refine at_callD 13 ?_); refine L_give (by rfl) (g_call 16 _ _ [.agg (hc (h)).toArray] (kf16 _ _) rfl ((may_any h true w1 hm).mono ?_)); rintro e w2 ⟨rfl, t_⟩; refine ⟨_, rfl, ?_⟩; replace b_h := b_h.below t_ b_h.lt; replace hB := hB.trans (t_.mono hB.size); clear t_; (try simp only [Act.put, List.setIfInBounds_toArray, List.set_cons_zero, List.set_cons_succ]))
    | ((with_reducible refine at_allocD 4 55 ?_); refine L_alloc 55 [.pointer none, .slice none 0 0] zeroB ?_; intro w3 t_ b_b; have o_h_b := b_h.lt; have l_hB_b : _ ≤ w2.heap.size := hB.size; replace b_h := t_.blk b_h (Nat.ne_of_lt b_h.lt); replace hB := t_.below hB l_hB_b; clear t_; (try simp only [Act.put, List.setIfInBounds_toArray, List.set_cons_zero, List.set_cons_succ]))
    | ((with_reducible refine at_loadD 16 3 ?_); refine L_give (by rfl) (g_cell3 _ (w.heap.size) 0 _ rfl ((b_h).cell 0 _ rfl) ?_); (try simp only [Act.put, List.setIfInBounds_toArray, List.set_cons_zero, List.set_cons_succ]))
    | ((with_reducible refine at_binD 17 ?_); refine L_give (by rfl) (g_shl6 _ _ _ rfl e1.out ?_); (try simp only [Act.put, List.setIfInBounds_toArray, List.set_cons_zero, List.set_cons_succ]))
    | ((with_reducible refine at_loadD 19 3 ?_); refine L_give (by rfl) (g_cell3 _ (w.heap.size) 1 _ rfl ((b_h).cell 1 _ rfl) ?_); (try simp only [Act.put, List.setIfInBounds_toArray, List.set_cons_zero, List.set_cons_succ]))
    | ((with_reducible refine at_binD 20 ?_); refine L_give (by rfl) (g_shl3 _ _ _ rfl e2.out ?_); (try simp only [Act.put, List.setIfInBounds_toArray, List.set_cons_zero, List.set_cons_succ]))
    | ((with_reducible refine at_binD 21 ?_); refine L_give (by rfl) (g_or _ _ _ _ _ rfl rfl e3.out ?_); (try simp only [Act.put, List.setIfInBounds_toArray, List.set_cons_zero, List.set_cons_succ]))
    | ((with_reducible refine at_loadD 23 3 ?_); refine L_give (by rfl) (g_cell3 _ (w.heap.size) 2 _ rfl ((b_h).cell 2 _ rfl) ?_); (try simp only [Act.put, List.setIfInBounds_toArray, List.set_cons_zero, List.set_cons_succ]))
    | ((with_reducible refine at_binD 24 ?_); refine L_give (by rfl) (g_or _ _ _ _ _ rfl rfl e4.out ?_); (try simp only [Act.put, List.setIfInBounds_toArray, List.set_cons_zero, List.set_cons_succ]))
    | ((with_reducible refine at_loadD 27 3 ?_); refine L_give (by rfl) (g_cell3 _ (w.heap.size) 3 _ rfl ((b_h).cell 3 _ rfl) ?_); (try simp only [Act.put, List.setIfInBounds_toArray, List.set_cons_zero, List.set_cons_succ]))
    | ((with_reducible refine at_loadD 29 3 ?_); refine L_give (by rfl) (g_cell3 _ (w.heap.size) 4 _ rfl ((b_h).cell 4 _ rfl) ?_); (try simp only [Act.put, List.setIfInBounds_toArray, List.set_cons_zero, List.set_cons_succ]))
    | ((with_reducible refine at_loadD 31 3 ?_); refine L_give (by rfl) (g_cell3 _ (w.heap.size) 5 _ rfl ((b_h).cell 5 _ rfl) ?_); (try simp only [Act.put, List.setIfInBounds_toArray, List.set_cons_zero, List.set_cons_succ]))
    | ((with_reducible refine at_bld 32 ?_); refine L_give (by rfl) (g_val (.agg ([.int .i64 O, .int .i64 h.st, .int .i64 h.po, .int .i64 h.pr] : List Value).toArray) _ (by simp only [execOp, List.map_toArray, List.map_cons, List.map_nil]; go_simp) ?_); (try simp only [Act.put, List.setIfInBounds_toArray, List.set_cons_zero, List.set_cons_succ])))
  obtain ⟨b, hbE⟩ : ∃ b, w2.heap.size = b := ⟨_, rfl⟩
  rw [hbE] at b_b o_h_b l_hB_b ⊢
  have HB := isb_new b_b
  clear b_b hbE
  go_loopw [33] (fun i wr => ∃ L : List UInt8, ((i = .int .i64 0 ∧ L = ([] : List UInt8)) ∨ (i = .int .i64 1 ∧ L = (([] : List UInt8) ++ S0.data.toList)) ∨ (i = .int .i64 2 ∧ L = ((([] : List UInt8) ++ S0.data.toList) ++ S1.data.toList)) ∨ (i = .int .i64 3 ∧ L = (((([] : List UInt8) ++ S0.data.toList) ++ S1.data.toList) ++ S2.data.toList)) ∨ (i = .int .i64 4 ∧ L = ((((([] : List UInt8) ++ S0.data.toList) ++ S1.data.toList) ++ S2.data.toList) ++ S3.data.toList))) ∧ Lib.IsBuilder 55 5 b b (Lib.byteCells L) wr ∧ Blk wr w.heap.size (hc h) 26 ∧ Below w.heap.size w wr) (fun i _ => 4 - (intOf i).toNat)
  case atStart => exact ⟨_, Or.inl ⟨rfl, rfl⟩, HB, b_h, hB⟩
  case round =>
    clear HB b_h hB
    obtain ⟨L, hk, HB, b_h, hB⟩ := hrel
    rcases hk with ⟨rfl, rfl⟩ | ⟨rfl, rfl⟩ | ⟨rfl, rfl⟩ | ⟨rfl, rfl⟩ | ⟨rfl, rfl⟩
    · go_wp2_with (first
        | ((with_reducible refine at_binD 34 ?_); refine L_give (by rfl) (g_ilss 3 _ _ .i64 _ _ true rfl rfl (by decide) ?_); (try simp only [Act.put, List.setIfInBounds_toArray, List.set_cons_zero, List.set_cons_succ]))
        | ((with_reducible refine at_idxD 35 ?_); refine L_give (by rfl) (g_idxA _ _ 57 3 4 0 _ ([.int .i64 O, .int .i64 h.st, .int .i64 h.po, .int .i64 h.pr]) (.int .i64 O) Try.underlying57 Try.isAgg3 Try.sizeOf3 rfl rfl rfl (by decide) rfl ?_); (try simp only [Act.put, List.setIfInBounds_toArray, List.set_cons_zero, List.set_cons_succ]))
        | ((with_reducible refine at_cnv 37 ?_); refine L_give (by rfl) (g_cv_3_23 _ _ _ rfl f0.out ?_); (try simp only [Act.put, List.setIfInBounds_toArray, List.set_cons_zero, List.set_cons_succ]))
        | ((with_reducible refine at_callD 38 ?_); refine L_give (by rfl) (g_call 26 _ _ [.int .u64 y0, .int .i64 ((1 : Nat) : Int)] (kf26 _ _) rfl ((put_x y0 1 S0 _ (by decide) n0 s0).mono ?_)); rintro e wa ⟨rfl, t_⟩; refine ⟨_, rfl, ?_⟩; replace HB := isb_below HB t_; replace b_h := b_h.below t_ b_h.lt; replace hB := hB.trans (t_.mono hB.size); clear t_; (try simp only [Act.put, List.setIfInBounds_toArray, List.set_cons_zero, List.set_cons_succ]))
        | ((with_reducible refine at_callD 39 ?_); refine L_give (by rfl) (g_call 25 _ _ [.pointer (some ⟨b, 0, none⟩), .string S0] (kf25 _ _) rfl ((bwrite b _ S0 _ HB (by simp only [List.length_nil]; omega)).mono ?_)); rintro e wb ⟨rfl, HB2, t_⟩; refine ⟨_, rfl, ?_⟩; replace b_h := b_h.below t_ o_h_b; replace hB := hB.trans (t_.mono (Nat.le_of_lt o_h_b)); clear t_ HB; (try simp only [Act.put, List.setIfInBounds_toArray, List.set_cons_zero, List.set_cons_succ])))
      go_roundw
      case rel => exact ⟨_, Or.inr (Or.inl ⟨rfl, rfl⟩), HB2, b_h, hB⟩
      case measure => simp [intOf]
    · go_wp2_with (first
        | ((with_reducible refine at_binD 34 ?_); refine L_give (by rfl) (g_ilss 3 _ _ .i64 _ _ true rfl rfl (by decide) ?_); (try simp only [Act.put, List.setIfInBounds_toArray, List.set_cons_zero, List.set_cons_succ]))
        | ((with_reducible refine at_idxD 35 ?_); refine L_give (by rfl) (g_idxA _ _ 57 3 4 1 _ ([.int .i64 O, .int .i64 h.st, .int .i64 h.po, .int .i64 h.pr]) (.int .i64 h.st) Try.underlying57 Try.isAgg3 Try.sizeOf3 rfl rfl rfl (by decide) rfl ?_); (try simp only [Act.put, List.setIfInBounds_toArray, List.set_cons_zero, List.set_cons_succ]))
        | ((with_reducible refine at_cnv 37 ?_); refine L_give (by rfl) (g_cv_3_23 _ _ _ rfl f1.out ?_); (try simp only [Act.put, List.setIfInBounds_toArray, List.set_cons_zero, List.set_cons_succ]))
        | ((with_reducible refine at_callD 38 ?_); refine L_give (by rfl) (g_call 26 _ _ [.int .u64 y1, .int .i64 ((1 : Nat) : Int)] (kf26 _ _) rfl ((put_x y1 1 S1 _ (by decide) n1 s1).mono ?_)); rintro e wa ⟨rfl, t_⟩; refine ⟨_, rfl, ?_⟩; replace HB := isb_below HB t_; replace b_h := b_h.below t_ b_h.lt; replace hB := hB.trans (t_.mono hB.size); clear t_; (try simp only [Act.put, List.setIfInBounds_toArray, List.set_cons_zero, List.set_cons_succ]))
        | ((with_reducible refine at_callD 39 ?_); refine L_give (by rfl) (g_call 25 _ _ [.pointer (some ⟨b, 0, none⟩), .string S1] (kf25 _ _) rfl ((bwrite b _ S1 _ HB (by simp only [List.length_append, List.length_nil, ← Lib.size_eq]; omega)).mono ?_)); rintro e wb ⟨rfl, HB2, t_⟩; refine ⟨_, rfl, ?_⟩; replace b_h := b_h.below t_ o_h_b; replace hB := hB.trans (t_.mono (Nat.le_of_lt o_h_b)); clear t_ HB; (try simp only [Act.put, List.setIfInBounds_toArray, List.set_cons_zero, List.set_cons_succ])))
      go_roundw
      case rel => exact ⟨_, Or.inr (Or.inr (Or.inl ⟨rfl, rfl⟩)), HB2, b_h, hB⟩
      case measure => simp [intOf]
    · go_wp2_with (first
        | ((with_reducible refine at_binD 34 ?_); refine L_give (by rfl) (g_ilss 3 _ _ .i64 _ _ true rfl rfl (by decide) ?_); (try simp only [Act.put, List.setIfInBounds_toArray, List.set_cons_zero, List.set_cons_succ]))
        | ((with_reducible refine at_idxD 35 ?_); refine L_give (by rfl) (g_idxA _ _ 57 3 4 2 _ ([.int .i64 O, .int .i64 h.st, .int .i64 h.po, .int .i64 h.pr]) (.int .i64 h.po) Try.underlying57 Try.isAgg3 Try.sizeOf3 rfl rfl rfl (by decide) rfl ?_); (try simp only [Act.put, List.setIfInBounds_toArray, List.set_cons_zero, List.set_cons_succ]))
        | ((with_reducible refine at_cnv 37 ?_); refine L_give (by rfl) (g_cv_3_23 _ _ _ rfl f2.out ?_); (try simp only [Act.put, List.setIfInBounds_toArray, List.set_cons_zero, List.set_cons_succ]))
        | ((with_reducible refine at_callD 38 ?_); refine L_give (by rfl) (g_call 26 _ _ [.int .u64 y2, .int .i64 ((1 : Nat) : Int)] (kf26 _ _) rfl ((put_x y2 1 S2 _ (by decide) n2 s2).mono ?_)); rintro e wa ⟨rfl, t_⟩; refine ⟨_, rfl, ?_⟩; replace HB := isb_below HB t_; replace b_h := b_h.below t_ b_h.lt; replace hB := hB.trans (t_.mono hB.size); clear t_; (try simp only [Act.put, List.setIfInBounds_toArray, List.set_cons_zero, List.set_cons_succ]))
        | ((with_reducible refine at_callD 39 ?_); refine L_give (by rfl) (g_call 25 _ _ [.pointer (some ⟨b, 0, none⟩), .string S2] (kf25 _ _) rfl ((bwrite b _ S2 _ HB (by simp only [List.length_append, List.length_nil, ← Lib.size_eq]; omega)).mono ?_)); rintro e wb ⟨rfl, HB2, t_⟩; refine ⟨_, rfl, ?_⟩; replace b_h := b_h.below t_ o_h_b; replace hB := hB.trans (t_.mono (Nat.le_of_lt o_h_b)); clear t_ HB; (try simp only [Act.put, List.setIfInBounds_toArray, List.set_cons_zero, List.set_cons_succ])))
      go_roundw
      case rel => exact ⟨_, Or.inr (Or.inr (Or.inr (Or.inl ⟨rfl, rfl⟩))), HB2, b_h, hB⟩
      case measure => simp [intOf]
    · go_wp2_with (first
        | ((with_reducible refine at_binD 34 ?_); refine L_give (by rfl) (g_ilss 3 _ _ .i64 _ _ true rfl rfl (by decide) ?_); (try simp only [Act.put, List.setIfInBounds_toArray, List.set_cons_zero, List.set_cons_succ]))
        | ((with_reducible refine at_idxD 35 ?_); refine L_give (by rfl) (g_idxA _ _ 57 3 4 3 _ ([.int .i64 O, .int .i64 h.st, .int .i64 h.po, .int .i64 h.pr]) (.int .i64 h.pr) Try.underlying57 Try.isAgg3 Try.sizeOf3 rfl rfl rfl (by decide) rfl ?_); (try simp only [Act.put, List.setIfInBounds_toArray, List.set_cons_zero, List.set_cons_succ]))
        | ((with_reducible refine at_cnv 37 ?_); refine L_give (by rfl) (g_cv_3_23 _ _ _ rfl f3.out ?_); (try simp only [Act.put, List.setIfInBounds_toArray, List.set_cons_zero, List.set_cons_succ]))
        | ((with_reducible refine at_callD 38 ?_); refine L_give (by rfl) (g_call 26 _ _ [.int .u64 y3, .int .i64 ((1 : Nat) : Int)] (kf26 _ _) rfl ((put_x y3 1 S3 _ (by decide) n3 s3).mono ?_)); rintro e wa ⟨rfl, t_⟩; refine ⟨_, rfl, ?_⟩; replace HB := isb_below HB t_; replace b_h := b_h.below t_ b_h.lt; replace hB := hB.trans (t_.mono hB.size); clear t_; (try simp only [Act.put, List.setIfInBounds_toArray, List.set_cons_zero, List.set_cons_succ]))
        | ((with_reducible refine at_callD 39 ?_); refine L_give (by rfl) (g_call 25 _ _ [.pointer (some ⟨b, 0, none⟩), .string S3] (kf25 _ _) rfl ((bwrite b _ S3 _ HB (by simp only [List.length_append, List.length_nil, ← Lib.size_eq]; omega)).mono ?_)); rintro e wb ⟨rfl, HB2, t_⟩; refine ⟨_, rfl, ?_⟩; replace b_h := b_h.below t_ o_h_b; replace hB := hB.trans (t_.mono (Nat.le_of_lt o_h_b)); clear t_ HB; (try simp only [Act.put, List.setIfInBounds_toArray, List.set_cons_zero, List.set_cons_succ])))
      go_roundw
      case rel => exact ⟨_, Or.inr (Or.inr (Or.inr (Or.inr (⟨rfl, rfl⟩)))), HB2, b_h, hB⟩
      case measure => simp [intOf]
    · skip
      go_wp2_with (first
        | ((with_reducible refine at_binD 34 ?_); refine L_give (by rfl) (g_ilss 3 _ _ .i64 _ _ false rfl rfl (by decide) ?_); (try simp only [Act.put, List.setIfInBounds_toArray, List.set_cons_zero, List.set_cons_succ]))
        | ((with_reducible refine at_callD 41 ?_); refine L_give (by rfl) (g_call 27 _ _ [.pointer (some ⟨w.heap.size, 0, none⟩)] (kf27 _ _) rfl ((words_any _ _).mono ?_)); rintro e wa ⟨rfl, t_⟩; refine ⟨_, rfl, ?_⟩; replace HB := isb_below HB t_; replace b_h := b_h.below t_ b_h.lt; replace hB := hB.trans (t_.mono hB.size); clear t_; (try simp only [Act.put, List.setIfInBounds_toArray, List.set_cons_zero, List.set_cons_succ])))
      go_loopw [42] (fun i wr => ∃ L : List UInt8, ((i = .int .i64 0 ∧ L = ((((([] : List UInt8) ++ S0.data.toList) ++ S1.data.toList) ++ S2.data.toList) ++ S3.data.toList)) ∨ (i = .int .i64 1 ∧ L = (((((([] : List UInt8) ++ S0.data.toList) ++ S1.data.toList) ++ S2.data.toList) ++ S3.data.toList) ++ S4.data.toList)) ∨ (i = .int .i64 2 ∧ L = ((((((([] : List UInt8) ++ S0.data.toList) ++ S1.data.toList) ++ S2.data.toList) ++ S3.data.toList) ++ S4.data.toList) ++ S5.data.toList)) ∨ (i = .int .i64 3 ∧ L = (((((((([] : List UInt8) ++ S0.data.toList) ++ S1.data.toList) ++ S2.data.toList) ++ S3.data.toList) ++ S4.data.toList) ++ S5.data.toList) ++ S6.data.toList))) ∧ Lib.IsBuilder 55 5 b b (Lib.byteCells L) wr ∧ Blk wr w.heap.size (hc h) 26 ∧ Below w.heap.size w wr) (fun i _ => 3 - (intOf i).toNat)
      case atStart => exact ⟨_, Or.inl ⟨rfl, rfl⟩, HB, b_h, hB⟩
      case round =>
        clear HB b_h hB
        obtain ⟨L, hk, HB, b_h, hB⟩ := hrel
        rcases hk with ⟨rfl, rfl⟩ | ⟨rfl, rfl⟩ | ⟨rfl, rfl⟩ | ⟨rfl, rfl⟩
        · go_wp2_with (first
            | ((with_reducible refine at_binD 43 ?_); refine L_give (by rfl) (g_ilss 3 _ _ .i64 _ _ true rfl rfl (by decide) ?_); (try simp only [Act.put, List.setIfInBounds_toArray, List.set_cons_zero, List.set_cons_succ]))
            | ((with_reducible refine at_idxD 44 ?_); refine L_give (by rfl) (g_idxA _ _ 64 63 3 0 _ ([.pointer (some ⟨w.heap.size, 6, none⟩), .pointer (some ⟨w.heap.size, 7, none⟩), .pointer (some ⟨w.heap.size, 8, none⟩)]) (.pointer (some ⟨w.heap.size, 6, none⟩)) Try.underlying64 Try.isAgg63 Try.sizeOf63 rfl rfl rfl (by decide) rfl ?_); (try simp only [Act.put, List.setIfInBounds_toArray, List.set_cons_zero, List.set_cons_succ]))
            | ((with_reducible refine at_nilD 46 ?_); refine L_give (by rfl) (g_nilc _ _ rfl ?_); (try simp only [Act.put, List.setIfInBounds_toArray, List.set_cons_zero, List.set_cons_succ]))
            | ((with_reducible refine at_loadD 47 22 ?_); refine L_give (by rfl) (g_cell22 _ w.heap.size 6 _ rfl (b_h.cell 6 _ rfl) ?_); (try simp only [Act.put, List.setIfInBounds_toArray, List.set_cons_zero, List.set_cons_succ]))
            | ((with_reducible refine at_cnv 48 ?_); refine L_give (by rfl) (g_cv_22_23 _ _ _ rfl g0.out ?_); (try simp only [Act.put, List.setIfInBounds_toArray, List.set_cons_zero, List.set_cons_succ]))
            | ((with_reducible refine at_callD 49 ?_); refine L_give (by rfl) (g_call 26 _ _ [.int .u64 d0, .int .i64 ((4 : Nat) : Int)] (kf26 _ _) rfl ((put_x d0 4 S4 _ (by decide) k0 s4).mono ?_)); rintro e wa ⟨rfl, t_⟩; refine ⟨_, rfl, ?_⟩; replace HB := isb_below HB t_; replace b_h := b_h.below t_ b_h.lt; replace hB := hB.trans (t_.mono hB.size); clear t_; (try simp only [Act.put, List.setIfInBounds_toArray, List.set_cons_zero, List.set_cons_succ]))
            | ((with_reducible refine at_callD 50 ?_); refine L_give (by rfl) (g_call 25 _ _ [.pointer (some ⟨b, 0, none⟩), .string S4] (kf25 _ _) rfl ((bwrite b _ S4 _ HB (by simp only [List.length_append, List.length_nil, ← Lib.size_eq]; omega)).mono ?_)); rintro e wb ⟨rfl, HB2, t_⟩; refine ⟨_, rfl, ?_⟩; replace b_h := b_h.below t_ o_h_b; replace hB := hB.trans (t_.mono (Nat.le_of_lt o_h_b)); clear t_ HB; (try simp only [Act.put, List.setIfInBounds_toArray, List.set_cons_zero, List.set_cons_succ])))
          go_roundw
          case rel => exact ⟨_, Or.inr (Or.inl ⟨rfl, rfl⟩), HB2, b_h, hB⟩
          case measure => simp [intOf]
        · go_wp2_with (first
            | ((with_reducible refine at_binD 43 ?_); refine L_give (by rfl) (g_ilss 3 _ _ .i64 _ _ true rfl rfl (by decide) ?_); (try simp only [Act.put, List.setIfInBounds_toArray, List.set_cons_zero, List.set_cons_succ]))
            | ((with_reducible refine at_idxD 44 ?_); refine L_give (by rfl) (g_idxA _ _ 64 63 3 1 _ ([.pointer (some ⟨w.heap.size, 6, none⟩), .pointer (some ⟨w.heap.size, 7, none⟩), .pointer (some ⟨w.heap.size, 8, none⟩)]) (.pointer (some ⟨w.heap.size, 7, none⟩)) Try.underlying64 Try.isAgg63 Try.sizeOf63 rfl rfl rfl (by decide) rfl ?_); (try simp only [Act.put, List.setIfInBounds_toArray, List.set_cons_zero, List.set_cons_succ]))
            | ((with_reducible refine at_nilD 46 ?_); refine L_give (by rfl) (g_nilc _ _ rfl ?_); (try simp only [Act.put, List.setIfInBounds_toArray, List.set_cons_zero, List.set_cons_succ]))
            | ((with_reducible refine at_loadD 47 22 ?_); refine L_give (by rfl) (g_cell22 _ w.heap.size 7 _ rfl (b_h.cell 7 _ rfl) ?_); (try simp only [Act.put, List.setIfInBounds_toArray, List.set_cons_zero, List.set_cons_succ]))
            | ((with_reducible refine at_cnv 48 ?_); refine L_give (by rfl) (g_cv_22_23 _ _ _ rfl g1.out ?_); (try simp only [Act.put, List.setIfInBounds_toArray, List.set_cons_zero, List.set_cons_succ]))
            | ((with_reducible refine at_callD 49 ?_); refine L_give (by rfl) (g_call 26 _ _ [.int .u64 d1, .int .i64 ((4 : Nat) : Int)] (kf26 _ _) rfl ((put_x d1 4 S5 _ (by decide) k1 s5).mono ?_)); rintro e wa ⟨rfl, t_⟩; refine ⟨_, rfl, ?_⟩; replace HB := isb_below HB t_; replace b_h := b_h.below t_ b_h.lt; replace hB := hB.trans (t_.mono hB.size); clear t_; (try simp only [Act.put, List.setIfInBounds_toArray, List.set_cons_zero, List.set_cons_succ]))
            | ((with_reducible refine at_callD 50 ?_); refine L_give (by rfl) (g_call 25 _ _ [.pointer (some ⟨b, 0, none⟩), .string S5] (kf25 _ _) rfl ((bwrite b _ S5 _ HB (by simp only [List.length_append, List.length_nil, ← Lib.size_eq]; omega)).mono ?_)); rintro e wb ⟨rfl, HB2, t_⟩; refine ⟨_, rfl, ?_⟩; replace b_h := b_h.below t_ o_h_b; replace hB := hB.trans (t_.mono (Nat.le_of_lt o_h_b)); clear t_ HB; (try simp only [Act.put, List.setIfInBounds_toArray, List.set_cons_zero, List.set_cons_succ])))
          go_roundw
          case rel => exact ⟨_, Or.inr (Or.inr (Or.inl ⟨rfl, rfl⟩)), HB2, b_h, hB⟩
          case measure => simp [intOf]
        · go_wp2_with (first
            | ((with_reducible refine at_binD 43 ?_); refine L_give (by rfl) (g_ilss 3 _ _ .i64 _ _ true rfl rfl (by decide) ?_); (try simp only [Act.put, List.setIfInBounds_toArray, List.set_cons_zero, List.set_cons_succ]))
            | ((with_reducible refine at_idxD 44 ?_); refine L_give (by rfl) (g_idxA _ _ 64 63 3 2 _ ([.pointer (some ⟨w.heap.size, 6, none⟩), .pointer (some ⟨w.heap.size, 7, none⟩), .pointer (some ⟨w.heap.size, 8, none⟩)]) (.pointer (some ⟨w.heap.size, 8, none⟩)) Try.underlying64 Try.isAgg63 Try.sizeOf63 rfl rfl rfl (by decide) rfl ?_); (try simp only [Act.put, List.setIfInBounds_toArray, List.set_cons_zero, List.set_cons_succ]))
            | ((with_reducible refine at_nilD 46 ?_); refine L_give (by rfl) (g_nilc _ _ rfl ?_); (try simp only [Act.put, List.setIfInBounds_toArray, List.set_cons_zero, List.set_cons_succ]))
            | ((with_reducible refine at_loadD 47 22 ?_); refine L_give (by rfl) (g_cell22 _ w.heap.size 8 _ rfl (b_h.cell 8 _ rfl) ?_); (try simp only [Act.put, List.setIfInBounds_toArray, List.set_cons_zero, List.set_cons_succ]))
            | ((with_reducible refine at_cnv 48 ?_); refine L_give (by rfl) (g_cv_22_23 _ _ _ rfl g2.out ?_); (try simp only [Act.put, List.setIfInBounds_toArray, List.set_cons_zero, List.set_cons_succ]))
            | ((with_reducible refine at_callD 49 ?_); refine L_give (by rfl) (g_call 26 _ _ [.int .u64 d2, .int .i64 ((4 : Nat) : Int)] (kf26 _ _) rfl ((put_x d2 4 S6 _ (by decide) k2 s6).mono ?_)); rintro e wa ⟨rfl, t_⟩; refine ⟨_, rfl, ?_⟩; replace HB := isb_below HB t_; replace b_h := b_h.below t_ b_h.lt; replace hB := hB.trans (t_.mono hB.size); clear t_; (try simp only [Act.put, List.setIfInBounds_toArray, List.set_cons_zero, List.set_cons_succ]))
            | ((with_reducible refine at_callD 50 ?_); refine L_give (by rfl) (g_call 25 _ _ [.pointer (some ⟨b, 0, none⟩), .string S6] (kf25 _ _) rfl ((bwrite b _ S6 _ HB (by simp only [List.length_append, List.length_nil, ← Lib.size_eq]; omega)).mono ?_)); rintro e wb ⟨rfl, HB2, t_⟩; refine ⟨_, rfl, ?_⟩; replace b_h := b_h.below t_ o_h_b; replace hB := hB.trans (t_.mono (Nat.le_of_lt o_h_b)); clear t_ HB; (try simp only [Act.put, List.setIfInBounds_toArray, List.set_cons_zero, List.set_cons_succ])))
          go_roundw
          case rel => exact ⟨_, Or.inr (Or.inr (Or.inr (⟨rfl, rfl⟩))), HB2, b_h, hB⟩
          case measure => simp [intOf]
        · skip
          go_wp2_with (first
            | ((with_reducible refine at_binD 43 ?_); refine L_give (by rfl) (g_ilss 3 _ _ .i64 _ _ false rfl rfl (by decide) ?_); (try simp only [Act.put, List.setIfInBounds_toArray, List.set_cons_zero, List.set_cons_succ]))
            | ((with_reducible refine at_callD 52 ?_); refine L_give (by rfl) (g_call 28 _ _ [.pointer (some ⟨w.heap.size, 0, none⟩)] (kf28 _ _) rfl ((stamps_any _ _).mono ?_)); rintro e wa ⟨rfl, t_⟩; refine ⟨_, rfl, ?_⟩; replace HB := isb_below HB t_; replace b_h := b_h.below t_ b_h.lt; replace hB := hB.trans (t_.mono hB.size); clear t_; (try simp only [Act.put, List.setIfInBounds_toArray, List.set_cons_zero, List.set_cons_succ])))
          go_loopw [53] (fun i wr => ∃ L : List UInt8, ((i = .int .i64 0 ∧ L = (((((((([] : List UInt8) ++ S0.data.toList) ++ S1.data.toList) ++ S2.data.toList) ++ S3.data.toList) ++ S4.data.toList) ++ S5.data.toList) ++ S6.data.toList)) ∨ (i = .int .i64 1 ∧ L = ((((((((([] : List UInt8) ++ S0.data.toList) ++ S1.data.toList) ++ S2.data.toList) ++ S3.data.toList) ++ S4.data.toList) ++ S5.data.toList) ++ S6.data.toList) ++ S7.data.toList)) ∨ (i = .int .i64 2 ∧ L = (((((((((([] : List UInt8) ++ S0.data.toList) ++ S1.data.toList) ++ S2.data.toList) ++ S3.data.toList) ++ S4.data.toList) ++ S5.data.toList) ++ S6.data.toList) ++ S7.data.toList) ++ S8.data.toList)) ∨ (i = .int .i64 3 ∧ L = ((((((((((([] : List UInt8) ++ S0.data.toList) ++ S1.data.toList) ++ S2.data.toList) ++ S3.data.toList) ++ S4.data.toList) ++ S5.data.toList) ++ S6.data.toList) ++ S7.data.toList) ++ S8.data.toList) ++ S9.data.toList)) ∨ (i = .int .i64 4 ∧ L = (((((((((((([] : List UInt8) ++ S0.data.toList) ++ S1.data.toList) ++ S2.data.toList) ++ S3.data.toList) ++ S4.data.toList) ++ S5.data.toList) ++ S6.data.toList) ++ S7.data.toList) ++ S8.data.toList) ++ S9.data.toList) ++ S10.data.toList))) ∧ Lib.IsBuilder 55 5 b b (Lib.byteCells L) wr ∧ Blk wr w.heap.size (hc h) 26 ∧ Below w.heap.size w wr) (fun i _ => 4 - (intOf i).toNat)
          case atStart => exact ⟨_, Or.inl ⟨rfl, rfl⟩, HB, b_h, hB⟩
          case round =>
            clear HB b_h hB
            obtain ⟨L, hk, HB, b_h, hB⟩ := hrel
            rcases hk with ⟨rfl, rfl⟩ | ⟨rfl, rfl⟩ | ⟨rfl, rfl⟩ | ⟨rfl, rfl⟩ | ⟨rfl, rfl⟩
            · go_wp2_with (first
                | ((with_reducible refine at_binD 54 ?_); refine L_give (by rfl) (g_ilss 3 _ _ .i64 _ _ true rfl rfl (by decide) ?_); (try simp only [Act.put, List.setIfInBounds_toArray, List.set_cons_zero, List.set_cons_succ]))
                | ((with_reducible refine at_idxD 55 ?_); refine L_give (by rfl) (g_idxA _ _ 68 67 4 0 _ ([.pointer (some ⟨w.heap.size, 9, none⟩), .pointer (some ⟨w.heap.size, 10, none⟩), .pointer (some ⟨w.heap.size, 11, none⟩), .pointer (some ⟨w.heap.size, 12, none⟩)]) (.pointer (some ⟨w.heap.size, 9, none⟩)) Try.underlying68 Try.isAgg67 Try.sizeOf67 rfl rfl rfl (by decide) rfl ?_); (try simp only [Act.put, List.setIfInBounds_toArray, List.set_cons_zero, List.set_cons_succ]))
                | ((with_reducible refine at_nilD 57 ?_); refine L_give (by rfl) (g_nilc _ _ rfl ?_); (try simp only [Act.put, List.setIfInBounds_toArray, List.set_cons_zero, List.set_cons_succ]))
                | ((with_reducible refine at_loadD 58 24 ?_); refine L_give (by rfl) (g_cell24 _ w.heap.size 9 _ rfl (b_h.cell 9 _ rfl) ?_); (try simp only [Act.put, List.setIfInBounds_toArray, List.set_cons_zero, List.set_cons_succ]))
                | ((with_reducible refine at_callD 59 ?_); refine L_give (by rfl) (g_call 26 _ _ [.int .u64 h.re, .int .i64 ((8 : Nat) : Int)] (kf26 _ _) rfl ((put_x h.re 8 S7 _ (by decide) j0 s7).mono ?_)); rintro e wa ⟨rfl, t_⟩; refine ⟨_, rfl, ?_⟩; replace HB := isb_below HB t_; replace b_h := b_h.below t_ b_h.lt; replace hB := hB.trans (t_.mono hB.size); clear t_; (try simp only [Act.put, List.setIfInBounds_toArray, List.set_cons_zero, List.set_cons_succ]))
                | ((with_reducible refine at_callD 60 ?_); refine L_give (by rfl) (g_call 25 _ _ [.pointer (some ⟨b, 0, none⟩), .string S7] (kf25 _ _) rfl ((bwrite b _ S7 _ HB (by simp only [List.length_append, List.length_nil, ← Lib.size_eq]; omega)).mono ?_)); rintro e wb ⟨rfl, HB2, t_⟩; refine ⟨_, rfl, ?_⟩; replace b_h := b_h.below t_ o_h_b; replace hB := hB.trans (t_.mono (Nat.le_of_lt o_h_b)); clear t_ HB; (try simp only [Act.put, List.setIfInBounds_toArray, List.set_cons_zero, List.set_cons_succ])))
              go_roundw
              case rel => exact ⟨_, Or.inr (Or.inl ⟨rfl, rfl⟩), HB2, b_h, hB⟩
              case measure => simp [intOf]
            · go_wp2_with (first
                | ((with_reducible refine at_binD 54 ?_); refine L_give (by rfl) (g_ilss 3 _ _ .i64 _ _ true rfl rfl (by decide) ?_); (try simp only [Act.put, List.setIfInBounds_toArray, List.set_cons_zero, List.set_cons_succ]))
                | ((with_reducible refine at_idxD 55 ?_); refine L_give (by rfl) (g_idxA _ _ 68 67 4 1 _ ([.pointer (some ⟨w.heap.size, 9, none⟩), .pointer (some ⟨w.heap.size, 10, none⟩), .pointer (some ⟨w.heap.size, 11, none⟩), .pointer (some ⟨w.heap.size, 12, none⟩)]) (.pointer (some ⟨w.heap.size, 10, none⟩)) Try.underlying68 Try.isAgg67 Try.sizeOf67 rfl rfl rfl (by decide) rfl ?_); (try simp only [Act.put, List.setIfInBounds_toArray, List.set_cons_zero, List.set_cons_succ]))
                | ((with_reducible refine at_nilD 57 ?_); refine L_give (by rfl) (g_nilc _ _ rfl ?_); (try simp only [Act.put, List.setIfInBounds_toArray, List.set_cons_zero, List.set_cons_succ]))
                | ((with_reducible refine at_loadD 58 24 ?_); refine L_give (by rfl) (g_cell24 _ w.heap.size 10 _ rfl (b_h.cell 10 _ rfl) ?_); (try simp only [Act.put, List.setIfInBounds_toArray, List.set_cons_zero, List.set_cons_succ]))
                | ((with_reducible refine at_callD 59 ?_); refine L_give (by rfl) (g_call 26 _ _ [.int .u64 h.og, .int .i64 ((8 : Nat) : Int)] (kf26 _ _) rfl ((put_x h.og 8 S8 _ (by decide) j1 s8).mono ?_)); rintro e wa ⟨rfl, t_⟩; refine ⟨_, rfl, ?_⟩; replace HB := isb_below HB t_; replace b_h := b_h.below t_ b_h.lt; replace hB := hB.trans (t_.mono hB.size); clear t_; (try simp only [Act.put, List.setIfInBounds_toArray, List.set_cons_zero, List.set_cons_succ]))
                | ((with_reducible refine at_callD 60 ?_); refine L_give (by rfl) (g_call 25 _ _ [.pointer (some ⟨b, 0, none⟩), .string S8] (kf25 _ _) rfl ((bwrite b _ S8 _ HB (by simp only [List.length_append, List.length_nil, ← Lib.size_eq]; omega)).mono ?_)); rintro e wb ⟨rfl, HB2, t_⟩; refine ⟨_, rfl, ?_⟩; replace b_h := b_h.below t_ o_h_b; replace hB := hB.trans (t_.mono (Nat.le_of_lt o_h_b)); clear t_ HB; (try simp only [Act.put, List.setIfInBounds_toArray, List.set_cons_zero, List.set_cons_succ])))
              go_roundw
              case rel => exact ⟨_, Or.inr (Or.inr (Or.inl ⟨rfl, rfl⟩)), HB2, b_h, hB⟩
              case measure => simp [intOf]
            · go_wp2_with (first
                | ((with_reducible refine at_binD 54 ?_); refine L_give (by rfl) (g_ilss 3 _ _ .i64 _ _ true rfl rfl (by decide) ?_); (try simp only [Act.put, List.setIfInBounds_toArray, List.set_cons_zero, List.set_cons_succ]))
                | ((with_reducible refine at_idxD 55 ?_); refine L_give (by rfl) (g_idxA _ _ 68 67 4 2 _ ([.pointer (some ⟨w.heap.size, 9, none⟩), .pointer (some ⟨w.heap.size, 10, none⟩), .pointer (some ⟨w.heap.size, 11, none⟩), .pointer (some ⟨w.heap.size, 12, none⟩)]) (.pointer (some ⟨w.heap.size, 11, none⟩)) Try.underlying68 Try.isAgg67 Try.sizeOf67 rfl rfl rfl (by decide) rfl ?_); (try simp only [Act.put, List.setIfInBounds_toArray, List.set_cons_zero, List.set_cons_succ]))
                | ((with_reducible refine at_nilD 57 ?_); refine L_give (by rfl) (g_nilc _ _ rfl ?_); (try simp only [Act.put, List.setIfInBounds_toArray, List.set_cons_zero, List.set_cons_succ]))
                | ((with_reducible refine at_loadD 58 24 ?_); refine L_give (by rfl) (g_cell24 _ w.heap.size 11 _ rfl (b_h.cell 11 _ rfl) ?_); (try simp only [Act.put, List.setIfInBounds_toArray, List.set_cons_zero, List.set_cons_succ]))
                | ((with_reducible refine at_callD 59 ?_); refine L_give (by rfl) (g_call 26 _ _ [.int .u64 h.rc, .int .i64 ((8 : Nat) : Int)] (kf26 _ _) rfl ((put_x h.rc 8 S9 _ (by decide) j2 s9).mono ?_)); rintro e wa ⟨rfl, t_⟩; refine ⟨_, rfl, ?_⟩; replace HB := isb_below HB t_; replace b_h := b_h.below t_ b_h.lt; replace hB := hB.trans (t_.mono hB.size); clear t_; (try simp only [Act.put, List.setIfInBounds_toArray, List.set_cons_zero, List.set_cons_succ]))
                | ((with_reducible refine at_callD 60 ?_); refine L_give (by rfl) (g_call 25 _ _ [.pointer (some ⟨b, 0, none⟩), .string S9] (kf25 _ _) rfl ((bwrite b _ S9 _ HB (by simp only [List.length_append, List.length_nil, ← Lib.size_eq]; omega)).mono ?_)); rintro e wb ⟨rfl, HB2, t_⟩; refine ⟨_, rfl, ?_⟩; replace b_h := b_h.below t_ o_h_b; replace hB := hB.trans (t_.mono (Nat.le_of_lt o_h_b)); clear t_ HB; (try simp only [Act.put, List.setIfInBounds_toArray, List.set_cons_zero, List.set_cons_succ])))
              go_roundw
              case rel => exact ⟨_, Or.inr (Or.inr (Or.inr (Or.inl ⟨rfl, rfl⟩))), HB2, b_h, hB⟩
              case measure => simp [intOf]
            · go_wp2_with (first
                | ((with_reducible refine at_binD 54 ?_); refine L_give (by rfl) (g_ilss 3 _ _ .i64 _ _ true rfl rfl (by decide) ?_); (try simp only [Act.put, List.setIfInBounds_toArray, List.set_cons_zero, List.set_cons_succ]))
                | ((with_reducible refine at_idxD 55 ?_); refine L_give (by rfl) (g_idxA _ _ 68 67 4 3 _ ([.pointer (some ⟨w.heap.size, 9, none⟩), .pointer (some ⟨w.heap.size, 10, none⟩), .pointer (some ⟨w.heap.size, 11, none⟩), .pointer (some ⟨w.heap.size, 12, none⟩)]) (.pointer (some ⟨w.heap.size, 12, none⟩)) Try.underlying68 Try.isAgg67 Try.sizeOf67 rfl rfl rfl (by decide) rfl ?_); (try simp only [Act.put, List.setIfInBounds_toArray, List.set_cons_zero, List.set_cons_succ]))
                | ((with_reducible refine at_nilD 57 ?_); refine L_give (by rfl) (g_nilc _ _ rfl ?_); (try simp only [Act.put, List.setIfInBounds_toArray, List.set_cons_zero, List.set_cons_succ]))
                | ((with_reducible refine at_loadD 58 24 ?_); refine L_give (by rfl) (g_cell24 _ w.heap.size 12 _ rfl (b_h.cell 12 _ rfl) ?_); (try simp only [Act.put, List.setIfInBounds_toArray, List.set_cons_zero, List.set_cons_succ]))
                | ((with_reducible refine at_callD 59 ?_); refine L_give (by rfl) (g_call 26 _ _ [.int .u64 h.tr, .int .i64 ((8 : Nat) : Int)] (kf26 _ _) rfl ((put_x h.tr 8 S10 _ (by decide) j3 s10).mono ?_)); rintro e wa ⟨rfl, t_⟩; refine ⟨_, rfl, ?_⟩; replace HB := isb_below HB t_; replace b_h := b_h.below t_ b_h.lt; replace hB := hB.trans (t_.mono hB.size); clear t_; (try simp only [Act.put, List.setIfInBounds_toArray, List.set_cons_zero, List.set_cons_succ]))
                | ((with_reducible refine at_callD 60 ?_); refine L_give (by rfl) (g_call 25 _ _ [.pointer (some ⟨b, 0, none⟩), .string S10] (kf25 _ _) rfl ((bwrite b _ S10 _ HB (by simp only [List.length_append, List.length_nil, ← Lib.size_eq]; omega)).mono ?_)); rintro e wb ⟨rfl, HB2, t_⟩; refine ⟨_, rfl, ?_⟩; replace b_h := b_h.below t_ o_h_b; replace hB := hB.trans (t_.mono (Nat.le_of_lt o_h_b)); clear t_ HB; (try simp only [Act.put, List.setIfInBounds_toArray, List.set_cons_zero, List.set_cons_succ])))
              go_roundw
              case rel => exact ⟨_, Or.inr (Or.inr (Or.inr (Or.inr (⟨rfl, rfl⟩)))), HB2, b_h, hB⟩
              case measure => simp [intOf]
            · skip
              go_wp2_with (first
                | ((with_reducible refine at_binD 54 ?_); refine L_give (by rfl) (g_ilss 3 _ _ .i64 _ _ false rfl rfl (by decide) ?_); (try simp only [Act.put, List.setIfInBounds_toArray, List.set_cons_zero, List.set_cons_succ]))
                | ((with_reducible refine at_callD 62 ?_); refine L_give (by rfl) (g_call 29 _ _ [.pointer (some ⟨b, 0, none⟩)] (kf29 _ _) rfl ((Try.Builder_String_any b b _ _ HB (Nat.le_of_lt (isb_lt HB))).mono ?_)); rintro e wa ⟨rfl, t_⟩; refine ⟨_, rfl, ?_⟩; replace hB := hB.trans (t_.mono (Nat.le_of_lt o_h_b)); clear t_; (try simp only [Act.put, List.setIfInBounds_toArray, List.set_cons_zero, List.set_cons_succ])))
              go_ret2
              exact ⟨rfl, hB⟩
set_option maxRecDepth 10000 in
set_option maxHeartbeats 2000000 in
theorem hput_f (h : Hd) (w : World) (hm : Hid (may h = false)) : Calls Try.prog 12 #[.agg (hc h).toArray] w fun e w' => e = .returned (.tuple #[.string ByteArray.empty, .int .i64 2]) ∧ Below w.heap.size w w' := by
  go_enter Try.func12, Try.ntmps12
  go_wp2_with (first
    | ((with_reducible refine at_boxD 1 26 ?_); refine L_box 26 _ (hc (h)) rfl ?_; intro w1 t_ b_h; have l_hB_h : w.heap.size ≤ w.heap.size := Nat.le_refl _; have hB : Below w.heap.size w w1 := t_.below (Below.refl _ _) (Nat.le_refl _); clear t_; (try simp only [Act.put, List.setIfInBounds_toArray, List.set_cons_zero, List.set_cons_succ]))
    | ((with_reducible refine at_loadD 12 26 ?_); refine L_give (by rfl) (g_load_all 26 _ (w.heap.size) (hc (h)) 26 _ rfl (b_h) Try.underlying26 rfl (szH hz) ?_); (try simp only [Act.put, List.setIfInBounds_toArray, List.set_cons_zero, List.set_cons_succ]))
    | ((with_reducible refine at_callD 13 ?_); refine L_give (by rfl) (g_call 16 _ _ [.agg (hc (h)).toArray] (kf16 _ _) rfl ((may_any h false w1 hm).mono ?_)); rintro e w2 ⟨rfl, t_⟩; refine ⟨_, rfl, ?_⟩; replace b_h := b_h.below t_ b_h.lt; replace hB := hB.trans (t_.mono hB.size); clear t_; (try simp only [Act.put, List.setIfInBounds_toArray, List.set_cons_zero, List.set_cons_succ])))
  go_ret2
  exact ⟨rfl, hB⟩
theorem or_open (le mo : Int) (h1 : 0 ≤ le) (h2 : le ≤ 3) (h3 : 0 ≤ mo) (h4 : mo ≤ 7) : bits .or .i64 (bits .or .i64 (IntKind.i64.wrap (le * 64)) (IntKind.i64.wrap (4 * 8))) mo = 64 * le + 8 * 4 + mo := by
  have a : le = 0 ∨ le = 1 ∨ le = 2 ∨ le = 3 := by omega
  have b : mo = 0 ∨ mo = 1 ∨ mo = 2 ∨ mo = 3 ∨ mo = 4 ∨ mo = 5 ∨ mo = 6 ∨ mo = 7 := by omega
  rcases a with rfl | rfl | rfl | rfl <;> rcases b with rfl | rfl | rfl | rfl | rfl | rfl | rfl | rfl <;> decide
theorem put_ib (n : Int) : putL (IntKind.u64.wrap n).toNat 1 = [ib n] := by
  have e : (IntKind.u64.wrap n).toNat % 256 = (n % 256).toNat := by rw [wrap_u64]; omega
  rw [putL, putL, List.nil_append, e]; rfl
theorem wrap_pos (n : Int) : 0 ≤ IntKind.u64.wrap n := by rw [wrap_u64]; omega
theorem hput_any (h : Hd) (S : ByteArray) (E : Int) (w : World) (hi : InH h) (hp : Hid (pt h = (S, E))) : Calls Try.prog 12 #[.agg (hc h).toArray] w fun e w' => e = .returned (.tuple #[.string S, .int .i64 E]) ∧ Below w.heap.size w w' := by
  have hp := hp.out
  unfold pt at hp
  split at hp
  · rename_i hm
    obtain ⟨rfl, rfl⟩ := Prod.mk.inj hp
    have m := of_decide_eq_true hm
    obtain ⟨m1, m2, m3, m4, m5, m6⟩ := m
    have oo := or_open h.le h.mo m2.1 m2.2 m3.1 m3.2
    rw [← m1] at oo
    have u : ∀ n : Int, InU32 n → IntKind.u64.wrap n = n := fun n hn => wraps_u64 n hn.1 (by have := hn.2; omega)
    have k := hput_w h _ _ _ _ _ _ _ _ h.de h.di h.ident _ _ _ _ _ _ _ _ _ _ _ w hm rfl rfl rfl oo rfl (wrap_pos _) rfl (wrap_pos _) rfl (wrap_pos _) rfl (wrap_pos _) (u _ hi.de) hi.de.1 (u _ hi.di) hi.di.1 (u _ hi.ident) hi.ident.1 hi.re.1 hi.og.1 hi.rc.1 hi.tr.1
      rfl (by rw [size_toArray, putL_length]) rfl (by rw [size_toArray, putL_length]) rfl (by rw [size_toArray, putL_length]) rfl (by rw [size_toArray, putL_length]) rfl (by rw [size_toArray, putL_length]) rfl (by rw [size_toArray, putL_length]) rfl (by rw [size_toArray, putL_length]) rfl (by rw [size_toArray, putL_length]) rfl (by rw [size_toArray, putL_length]) rfl (by rw [size_toArray, putL_length]) rfl (by rw [size_toArray, putL_length])

    simp only [put_ib, List.nil_append, List.append_assoc, List.cons_append] at k
    exact k
  · rename_i hm
    obtain ⟨rfl, rfl⟩ := Prod.mk.inj hp
    exact hput_f h w (by show _ = _; simpa using hm)
end Go.Proofs.Yteieacamokoejaa
