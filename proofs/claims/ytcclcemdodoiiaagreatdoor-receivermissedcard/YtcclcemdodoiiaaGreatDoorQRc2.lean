/- What (*Receiver).take and believe do, over the receiver's parts. -/
import Derived.Test.YtcclcemdodoiiaaGreatDoorQRunG
import Derived.Test.YtcclcemdodoiiaaGreatDoorQRc1
import Derived.Test.YtcclcemdodoiiaaGreatDoorQRcM2
import Derived.WalkKit
import Derived.WalkSpells
import Derived.WalkLawsBesides
namespace Go.Proofs.YtcclcemdodoiiaaGreatDoor
set_option maxRecDepth 10000
open Go Go.RowKit
set_option linter.unusedVariables false
set_option linter.unusedSimpArgs false

theorem btake_c {w0 w : World} {R : List HP} {p x : Nat} {y d i : Int} {L : List Thg} {cs : List ByteArray} (hcs : ofI i L = cs) (hM : Ms w0 w (bf p x y d L :: R)) (hL : L.length ≤ 10000) : Calls Tryz.prog 93 #[.pointer (some ⟨p, 0, none⟩), .int .i64 i] w fun e w' => ∃ (o : Option Addr) (k : Nat), e = .returned (.slice o cs.length k) ∧ Ms w0 w' (row 9 1 (.slice o cs.length k) cs.length (cs.map Value.string) :: bf p x y d (notI i L) :: R) := by
  subst hcs; exact to_row (btake_any hM hL)
theorem ivals_c {w0 w : World} {R : List HP} {p x : Nat} {y d : Int} {L : List Thg} {is : List Int} (his : ivs L = is) (hM : Ms w0 w (bf p x y d L :: R)) (hL : L.length ≤ 1000000) : Calls Tryz.prog 68 #[.pointer (some ⟨p, 0, none⟩)] w fun e w' => ∃ (o : Option Addr) (k : Nat), e = .returned (.slice o is.length k) ∧ Ms w0 w' (row 3 1 (.slice o is.length k) is.length (is.map encZ) :: bf p x y d L :: R) := by
  subst his; exact to_row (ivals_any hM hL)
theorem enc_at {is : List Int} {j : Nat} {i : Int} (h : is[j]? = some i) : (is.map encZ)[j]? = some (.int .i64 i) := by rw [List.getElem?_map, h]; rfl
set_option maxHeartbeats 4000000 in
theorem take_a {w0 w : World} {R : List HP} {p q m x : Nat} {P : Pl} {k : Ky} {n mo wr y d : Int} {L B : List Thg} {E : List (Int × Nat)} (i : Int) (K : Ky) (hM : Ms w0 w (blk (p) (rcc (P) (k) (n) (mo) (.pointer (some ⟨q, 0, none⟩)) (.map (some m)) (wr)) 95 :: bf q x y (d) (L) :: bl m E (B) :: R)) (hT : Tabs w0) (hL : L.length ≤ 10000) (hw : 0 ≤ wr ∧ wr ≤ 10000) (cs : List ByteArray) (hcs : ofI i L = cs) (hcl : cs.length ≤ 10000) (hsz : ∀ c ∈ cs, 16 ≤ c.size ∧ c.size ≤ 1016) (r : List Thg × Int) (hR : tkF K i B cs ([], wr) = r) : Calls Tryz.prog 69 #[.pointer (some ⟨p, 0, none⟩), .int .i64 i, .agg (kc K).toArray] w fun e w' => ∃ (v : Value) (E' : List (Int × Nat)), e = .returned v ∧ Ms w0 w' (row 73 2 v ((r.1).length) (tcs (r.1)) :: blk (p) (rcc (P) (k) (n) (mo) (.pointer (some ⟨q, 0, none⟩)) (.map (some m)) (r.2)) 95 :: bf q x y (d) (notI i L) :: bl m E' (B ++ r.1) :: R) := by
  go_enter Tryz.func69, Tryz.ntmps69
  refine wp_seq_k fun _ κ1 => wl_region (wl_give rfl (g_box 23 _ (kc (K)) rfl ?_))
  intro w2 t_ b_
  replace hM := hM.new t_ b_
  clear t_ b_
  refine wl_fare kn ?_
  simp (disch := omega) only [fx, pv, kx]
  refine wl_nil (κ1 _ _ ?_)
  refine wp_seq_k fun _ κ3 => wl_region (wl_fare kn ?_)
  simp (disch := omega) only [fx, pv, kx]
  refine wl_nil (κ3 _ _ ?_)
  refine wp_seq_k fun _ κ4 => wp_seq_k fun _ κ5 => wl_region (wl_fare kn ?_)
  simp (config := { maxSteps := 10000000 }) (disch := omega) only [fx, pv, kx, (hM.get 1 rfl).cell 38 (.pointer (some ⟨q, 0, none⟩)) (rv_38 _ _ _ _ _ _ _)]
  refine wl_give rfl (g_call 93 _ _ [.pointer (some ⟨q, 0, none⟩), .int .i64 (i)] (kf93 _ _) rfl ((btake_c hcs (show Ms w0 w2 (bf q x y (d) (L) :: blk (w.heap.size) (kc (K)) 23 :: blk (p) (rcc (P) (k) (n) (mo) (.pointer (some ⟨q, 0, none⟩)) (.map (some m)) (wr)) 95 :: bl m E (B) :: R) from (hM.up 2 rfl)) (by omega)).mono ?_))
  rintro e w6 ⟨o7, k8, rfl, h_⟩
  refine ⟨_, rfl, ?_⟩
  replace hM : Ms w0 w6 (row 9 1 (.slice o7 cs.length k8) (cs.length) (cs.map Value.string) :: bf q x y (d) (notI i L) :: blk (w.heap.size) (kc (K)) 23 :: blk (p) (rcc (P) (k) (n) (mo) (.pointer (some ⟨q, 0, none⟩)) (.map (some m)) (wr)) 95 :: bl m E (B) :: R) := h_
  clear h_
  try simp only [nz]
  refine wl_give rfl (g_len _ 59 9 (o7) (cs.length) (k8) (((cs.length : Nat) : Int)) Tryz.underlying59 rfl (rfl) ?_)
  refine wl_fare kn ?_
  simp (disch := omega) only [fx, pv, kx]
  refine wl_nil (κ5 _ _ ?_)
  refine wp_block ?_
  have h9 : Ms w0 w6 (row 73 2 (.slice none 0 0) (0) (tcs ([])) :: blk (p) (rcc (P) (k) (n) (mo) (.pointer (some ⟨q, 0, none⟩)) (.map (some m)) (wr)) 95 :: row 9 1 (.slice o7 cs.length k8) (cs.length) (cs.map Value.string) :: bf q x y (d) (notI i L) :: bl m E (B ++ []) :: blk (w.heap.size) (kc (K)) 23 :: R) := by rw [List.append_nil]; exact row_nil (((((hM.up 2 rfl).up 4 rfl).up 3 rfl).up 3 rfl).up 4 rfl)
  clear hM
  refine wp_rounds (fun z a wr_ => ∃ (j : Nat) (r : List Thg × Int) (E : List (Int × Nat)) (v : Value) (t : Nat → Value), a = ⟨#[.pointer (some ⟨p, 0, none⟩), .int .i64 (i), .agg (kc (K)).toArray, undef, undef, .pointer (some ⟨w.heap.size, 0, none⟩), .slice none (0) (0), v, undef, t 9, t 10, t 11, .pointer (some ⟨p, 0, none⟩), .pointer (some ⟨p, 0, none⟩), .pointer (some ⟨p, 38, none⟩), .pointer (some ⟨q, 0, none⟩), .int .i64 (i), .slice o7 (cs.length) (k8), .int .i64 (((cs.length : Nat) : Int)), .int .i64 ((j : Nat) : Int), t 20, t 21, t 22, t 23, t 24, t 25, t 26, t 27, t 28, t 29, t 30, t 31, t 32, t 33, t 34, t 35, t 36, t 37, t 38, t 39, t 40, t 41, t 42, t 43, t 44, t 45, t 46, t 47, t 48, t 49, t 50, t 51, t 52, t 53, t 54, t 55, t 56, t 57, t 58, t 59, t 60, undef], []⟩ ∧ j + z = cs.length ∧ tkF K i B (cs.take j) ([], wr) = r ∧ Ms w0 wr_ (row 73 2 v ((r.1).length) (tcs (r.1)) :: blk (p) (rcc (P) (k) (n) (mo) (.pointer (some ⟨q, 0, none⟩)) (.map (some m)) (r.2)) 95 :: row 9 1 (.slice o7 cs.length k8) (cs.length) (cs.map Value.string) :: bf q x y (d) (notI i L) :: bl m E (B ++ r.1) :: blk (w.heap.size) (kc (K)) 23 :: R)) _ ⟨0, ([], wr), E, .slice none 0 0, (tls [.pointer (some ⟨p, 0, none⟩), .int .i64 (i), .agg (kc (K)).toArray, undef, undef, .pointer (some ⟨w.heap.size, 0, none⟩), .slice none (0) (0), .slice none (0) (0), undef, undef, undef, undef, .pointer (some ⟨p, 0, none⟩), .pointer (some ⟨p, 0, none⟩), .pointer (some ⟨p, 38, none⟩), .pointer (some ⟨q, 0, none⟩), .int .i64 (i), .slice o7 (cs.length) (k8), .int .i64 (((cs.length : Nat) : Int)), .int .i64 (0), undef, undef, undef, undef, undef, undef, undef, undef, undef, undef, undef, undef, undef, undef, undef, undef, undef, undef, undef, undef, undef, undef, undef, undef, undef, undef, undef, undef, undef, undef, undef, undef, undef, undef, undef, undef, undef, undef, undef, undef, undef, undef]), rfl, Nat.zero_add _, rfl, h9⟩ ?_
  clear h9
  rintro z a wr_ ⟨j, r, E, v, u, rfl, hj, hr, hM⟩
  have hbd := tkF_bd K i B (cs.take j) ([], wr)
  rw [hr] at hbd
  have hjl2 : (cs.take j).length ≤ cs.length := by rw [List.length_take]; omega
  have hr1 : r.1.length ≤ 10000 ∧ 0 ≤ r.2 ∧ r.2 ≤ 20000 := by obtain ⟨b1, b2, b3, b4⟩ := hbd; simp only [List.length_nil] at b1 b2 b3; exact ⟨by omega, by omega, by omega⟩
  clear hbd hjl2
  by_cases hlt : ((j : Nat) : Int) < ((cs.length : Nat) : Int)
  · have hjl : j < cs.length := by omega
    obtain ⟨c, ht⟩ : ∃ c, cs[j]? = some c := ⟨_, List.getElem?_eq_getElem hjl⟩
    have hc := hsz c (List.mem_of_getElem? ht)
    have htk : cs.take (j + 1) = cs.take j ++ [c] := by rw [List.take_add_one, ht]; rfl
    have hrn : tkF K i B (cs.take (j + 1)) ([], wr) = tkS K i B r c := by rw [htk, tkF_snoc, hr]
    have e1 : Shut (IntKind.i64.wrap (((j : Nat) : Int) + 1) = ((j + 1 : Nat) : Int)) := ⟨by rw [wrap_id _ (by omega) (by omega)]; omega⟩
    have e2 : Shut (IntKind.i64.wrap (r.2 + 1) = r.2 + 1) := ⟨wrap_id _ (by omega) (by omega)⟩
    obtain ⟨g, c9, hv, hM⟩ := row_sl (hM.up 2 rfl) (by omega)
    cases hv
    replace hM : Ms w0 wr_ (sl 9 1 g k8 cs.length (cs.map Value.string) :: row 73 2 v ((r.1).length) (tcs (r.1)) :: blk (p) (rcc (P) (k) (n) (mo) (.pointer (some ⟨q, 0, none⟩)) (.map (some m)) (r.2)) 95 :: bf q x y (d) (notI i L) :: bl m E (B ++ r.1) :: blk (w.heap.size) (kc (K)) 23 :: R) := hM
    refine wp_seq_k fun _ κ9 => wl_region (wl_fare kn ?_)
    simp (disch := omega) only [fx, pv, kx]
    refine wl_nil (κ9 _ _ ?_)
    refine wp_seq_k fun _ κ10 => wp_cond_true rfl (wp_skip ?_)
    refine κ10 _ _ (wp_seq_k fun _ κ11 => ?_)
    refine wp_block (wp_seq_k fun _ κ12 => ?_)
    refine wl_region (wl_give rfl (g_ix _ _ 59 9 1 Tryz.underlying59 szof9 g 0 cs.length k8 j (j * 1) _ rfl rfl rfl hjl (Nat.zero_add _) ?_))
    try simp only [nz]
    refine wl_give rfl (g_ld1 9 _ (g) (j * 1) _ rfl (ld9 _ _ _ _ (by rw [Nat.mul_one]; exact sl_cell hM j _ (strs_at ht))) ?_)
    refine wl_fare kn ?_
    simp (disch := omega) only [fx, pv, kx]
    refine wl_nil (κ12 _ _ ?_)
    refine wp_seq_k fun _ κ13 => ?_
    refine wp_region_fixed (by kernel_rfl) (by kernel_rfl) [.string (c), .string (hd16 c), .string (c), .string (tl16 c), .string (hd16 c), .string (tl16 c)] (by rfl) (fun wx => Ms w0 wx (sl 9 1 g k8 cs.length (cs.map Value.string) :: row 73 2 v ((r.1).length) (tcs (r.1)) :: blk (p) (rcc (P) (k) (n) (mo) (.pointer (some ⟨q, 0, none⟩)) (.map (some m)) (r.2)) 95 :: bf q x y (d) (notI i L) :: bl m E (B ++ r.1) :: blk (w.heap.size) (kc (K)) 23 :: R)) hM.drew ?_ ?_
    · simp only [fullL, Act.put, st_a, st_s, st_0]
      refine ⟨?_, ?_, ?_, ?_, ?_, ?_, trivial⟩
      · exact mvL rfl rfl
      · exact fun wx hM => gw rfl (g_hd _ (c) rfl hc.1 ⟨rfl, hM⟩)
      · exact mvL rfl rfl
      · exact fun wx hM => gw rfl (g_tlx _ (c) rfl hc.1 ⟨rfl, hM⟩)
      · exact asL rfl rfl
      · exact asL rfl rfl
    · simp only [fullL, Act.put, st_a, st_s, st_0]
      intro w14 hM
      refine κ13 _ _ (wp_seq_k fun _ κ15 => ?_)
      by_cases hri : hd16 c = tgs K i (tl16 c)
      · skip
        refine wl_region (wl_give rfl (g_load_all 23 _ (w.heap.size) (kc (K)) 23 _ rfl (hM.get 5 rfl) Tryz.underlying23 rfl (szK _) ?_))
        refine wl_fare kn ?_
        simp (config := { maxSteps := 10000000 }) (disch := omega) only [fx, pv, kx]
        refine wl_give rfl (g_bldPk3 _ _ _ (i) (tl16 c) (hd16 c) rfl rfl rfl ?_)
        try simp only [nz]
        refine wl_give rfl (g_cM hM (kf94 _ _) (sright_any K i (tl16 c) (hd16 c) 0 zk w14 (hM.tabs hT) (by rw [tl16_size]; omega) (by rw [hd16_size hc.1]; unfold maxLen; decide) true ⟨decide_eq_true hri⟩) rfl fun w16 hM => wl_fare kn ?_)
        simp (disch := omega) only [fx, pv, kx]
        refine wl_nil (κ15 _ _ ?_)
        refine wp_cond_false rfl (wp_seq_k fun _ κ17 => ?_)
        by_cases hb : hasT i (tl16 c) (B ++ r.1) = true
        · skip
          refine wl_region (wl_fare kn ?_)
          simp (config := { maxSteps := 10000000 }) (disch := omega) only [fx, pv, kx, (hM.get 2 rfl).cell 39 (.map (some m)) (rv_39 _ _ _ _ _ _ _)]
          refine wl_give rfl (g_bl1 _ _ (i) rfl rfl (show Ms w0 _ (bl m E (B ++ r.1) :: sl 9 1 g k8 cs.length (cs.map Value.string) :: row 73 2 v ((r.1).length) (tcs (r.1)) :: blk (p) (rcc (P) (k) (n) (mo) (.pointer (some ⟨q, 0, none⟩)) (.map (some m)) (r.2)) 95 :: bf q x y (d) (notI i L) :: blk (w.heap.size) (kc (K)) 23 :: R) from (hM.up 4 rfl)) ?_)
          refine wl_fare kn ?_
          simp (disch := omega) only [fx, pv, kx]
          refine wl_give rfl (g_bl2 _ _ (i) (tl16 c) true rfl rfl (show Ms w0 _ (bl m E (B ++ r.1) :: sl 9 1 g k8 cs.length (cs.map Value.string) :: row 73 2 v ((r.1).length) (tcs (r.1)) :: blk (p) (rcc (P) (k) (n) (mo) (.pointer (some ⟨q, 0, none⟩)) (.map (some m)) (r.2)) 95 :: bf q x y (d) (notI i L) :: blk (w.heap.size) (kc (K)) 23 :: R) from (hM.up 4 rfl)) (hb) ?_)
          refine wl_fare kn ?_
          simp (disch := omega) only [fx, pv, kx]
          refine wl_nil (κ17 _ _ ?_)
          refine wp_cond_false rfl (wp_skip ?_)
          refine κ11 _ _ (wl_region (wl_fare kn ?_))
          simp (disch := omega) only [fx, pv, kx, ((e1.out) : IntKind.i64.wrap ((((j : Nat) : Int)) + (1)) = ((j + 1 : Nat) : Int))]
          refine wl_nil ?_
          (try simp only [Exit.then, Exit.inBlock, ↓reduceIte, Nat.reduceEqDiff])
          have h8 := sl_row ((((((hM.up 5 rfl).up 5 rfl).up 5 rfl).up 5 rfl).up 5 rfl).up 5 rfl)
          refine ⟨z - 1, by omega, j + 1, r, E, _, (tls [.pointer (some ⟨p, 0, none⟩), .int .i64 (i), .agg (kc (K)).toArray, undef, undef, .pointer (some ⟨w.heap.size, 0, none⟩), .slice none (0) (0), v, undef, .string (c), .string (hd16 c), .string (tl16 c), .pointer (some ⟨p, 0, none⟩), .pointer (some ⟨p, 0, none⟩), .pointer (some ⟨p, 38, none⟩), .pointer (some ⟨q, 0, none⟩), .int .i64 (i), .slice (some ⟨g, 0, none⟩) (cs.length) (k8), .int .i64 (((cs.length : Nat) : Int)), .int .i64 (((j + 1 : Nat) : Int)), .bool true, .pointer (some ⟨g, j * 1, none⟩), .string (c), .string (c), .string (hd16 c), .string (c), .string (tl16 c), .agg (kc (K)).toArray, .int .i64 (i), .string (tl16 c), .string (hd16 c), .agg (pkc (i) (tl16 c) (hd16 c) (0) (zk)).toArray, .bool true, .bool false, u 34, u 35, u 36, u 37, u 38, u 39, u 40, .pointer (some ⟨p, 0, none⟩), .pointer (some ⟨p, 0, none⟩), .pointer (some ⟨p, 39, none⟩), .map (some m), .int .i64 (i), blV E (i), .string (tl16 c), .bool true, .bool false, u 50, u 51, u 52, u 53, u 54, u 55, u 56, u 57, u 58, u 59, .int .i64 (((j + 1 : Nat) : Int)), undef]), rfl, by omega, hrn.trans (tkS_twice hri hb), ?_⟩
          exact (h8.up 2 rfl).up 2 rfl
        · have hb2 : hasT i (tl16 c) (B ++ r.1) = false := by simpa using hb
          refine wl_region (wl_fare kn ?_)
          simp (config := { maxSteps := 10000000 }) (disch := omega) only [fx, pv, kx, (hM.get 2 rfl).cell 39 (.map (some m)) (rv_39 _ _ _ _ _ _ _)]
          refine wl_give rfl (g_bl1 _ _ (i) rfl rfl (show Ms w0 _ (bl m E (B ++ r.1) :: sl 9 1 g k8 cs.length (cs.map Value.string) :: row 73 2 v ((r.1).length) (tcs (r.1)) :: blk (p) (rcc (P) (k) (n) (mo) (.pointer (some ⟨q, 0, none⟩)) (.map (some m)) (r.2)) 95 :: bf q x y (d) (notI i L) :: blk (w.heap.size) (kc (K)) 23 :: R) from (hM.up 4 rfl)) ?_)
          refine wl_fare kn ?_
          simp (disch := omega) only [fx, pv, kx]
          refine wl_give rfl (g_bl2 _ _ (i) (tl16 c) false rfl rfl (show Ms w0 _ (bl m E (B ++ r.1) :: sl 9 1 g k8 cs.length (cs.map Value.string) :: row 73 2 v ((r.1).length) (tcs (r.1)) :: blk (p) (rcc (P) (k) (n) (mo) (.pointer (some ⟨q, 0, none⟩)) (.map (some m)) (r.2)) 95 :: bf q x y (d) (notI i L) :: blk (w.heap.size) (kc (K)) 23 :: R) from (hM.up 4 rfl)) (hb2) ?_)
          refine wl_fare kn ?_
          simp (disch := omega) only [fx, pv, kx]
          refine wl_nil (κ17 _ _ ?_)
          refine wp_cond_true rfl (wp_seq_k fun _ κ18 => ?_)
          refine wl_region (wl_fare kn ?_)
          simp (config := { maxSteps := 10000000 }) (disch := omega) only [fx, pv, kx]
          refine wl_give rfl (g_call 95 _ _ [.pointer (some ⟨p, 0, none⟩), .int .i64 (i), .string (tl16 c)] (kf95 _ _) rfl ((mark_any (show Ms w0 w16 (blk (p) (rcc (P) (k) (n) (mo) (.pointer (some ⟨q, 0, none⟩)) (.map (some m)) (r.2)) 95 :: bl m E (B ++ r.1) :: sl 9 1 g k8 cs.length (cs.map Value.string) :: row 73 2 v ((r.1).length) (tcs (r.1)) :: bf q x y (d) (notI i L) :: blk (w.heap.size) (kc (K)) 23 :: R) from ((hM.up 4 rfl).up 3 rfl)) hb2).mono ?_))
          rintro e w19 ⟨F20, rfl, h_⟩
          refine ⟨_, rfl, ?_⟩
          replace hM : Ms w0 w19 (blk (p) (rcc (P) (k) (n) (mo) (.pointer (some ⟨q, 0, none⟩)) (.map (some m)) (r.2)) 95 :: bl m F20 (B ++ r.1 ++ [(i, tl16 c)]) :: sl 9 1 g k8 cs.length (cs.map Value.string) :: row 73 2 v ((r.1).length) (tcs (r.1)) :: bf q x y (d) (notI i L) :: blk (w.heap.size) (kc (K)) 23 :: R) := h_
          clear h_
          try simp only [nz]
          refine wl_nil (κ18 _ _ ?_)
          refine wl_region (wl_fare kn ?_)
          simp (config := { maxSteps := 10000000 }) (disch := omega) only [fx, pv, kx]
          refine wl_give rfl (g_bld73 _ _ (i) (tl16 c) rfl rfl ?_)
          try simp only [nz]
          refine wl_give rfl (g_bs73 _ (i, tl16 c) rfl hM fun w21 h_ => ?_)
          replace hM : Ms w0 w21 (blk (w19.heap.size) (tc (i, tl16 c)) 73 :: blk (p) (rcc (P) (k) (n) (mo) (.pointer (some ⟨q, 0, none⟩)) (.map (some m)) (r.2)) 95 :: bl m F20 (B ++ r.1 ++ [(i, tl16 c)]) :: sl 9 1 g k8 cs.length (cs.map Value.string) :: row 73 2 v ((r.1).length) (tcs (r.1)) :: bf q x y (d) (notI i L) :: blk (w.heap.size) (kc (K)) 23 :: R) := h_
          clear h_
          try simp only [nz]
          refine wl_give rfl (g_apT1 _ _ (v) ((r.1).length) (r.1) (w19.heap.size) 1 ((i, tl16 c)) rfl rfl (show Ms w0 w21 (row 73 2 v ((r.1).length) (tcs (r.1)) :: blk (w19.heap.size) (tc (i, tl16 c)) 73 :: blk (p) (rcc (P) (k) (n) (mo) (.pointer (some ⟨q, 0, none⟩)) (.map (some m)) (r.2)) 95 :: bl m F20 (B ++ r.1 ++ [(i, tl16 c)]) :: sl 9 1 g k8 cs.length (cs.map Value.string) :: bf q x y (d) (notI i L) :: blk (w.heap.size) (kc (K)) 23 :: R) from (hM.up 4 rfl)) (by omega) fun v23 w22 h_ => ?_)
          replace hM : Ms w0 w22 (row 73 2 v23 ((r.1).length + 1) (tcs (r.1 ++ [(i, tl16 c)])) :: blk (w19.heap.size) (tc (i, tl16 c)) 73 :: blk (p) (rcc (P) (k) (n) (mo) (.pointer (some ⟨q, 0, none⟩)) (.map (some m)) (r.2)) 95 :: bl m F20 (B ++ r.1 ++ [(i, tl16 c)]) :: sl 9 1 g k8 cs.length (cs.map Value.string) :: bf q x y (d) (notI i L) :: blk (w.heap.size) (kc (K)) 23 :: R) := h_
          clear h_
          refine wl_fare kn ?_
          simp (disch := omega) only [fx, pv, kx]
          refine wl_nil (κ11 _ _ ?_)
          refine wl_region (wl_fare kn ?_)
          simp (disch := omega) only [fx, pv, kx, ((e1.out) : IntKind.i64.wrap ((((j : Nat) : Int)) + (1)) = ((j + 1 : Nat) : Int))]
          refine wl_nil ?_
          (try simp only [Exit.then, Exit.inBlock, ↓reduceIte, Nat.reduceEqDiff])
          have h8 := sl_row (((((((hM.erase 1).up 5 rfl).up 3 rfl).up 5 rfl).up 4 rfl).up 4 rfl).up 5 rfl)
          refine ⟨z - 1, by omega, j + 1, (r.1 ++ [(i, tl16 c)], r.2), F20, _, (tls [.pointer (some ⟨p, 0, none⟩), .int .i64 (i), .agg (kc (K)).toArray, undef, undef, .pointer (some ⟨w.heap.size, 0, none⟩), .slice none (0) (0), v23, undef, .string (c), .string (hd16 c), .string (tl16 c), .pointer (some ⟨p, 0, none⟩), .pointer (some ⟨p, 0, none⟩), .pointer (some ⟨p, 38, none⟩), .pointer (some ⟨q, 0, none⟩), .int .i64 (i), .slice (some ⟨g, 0, none⟩) (cs.length) (k8), .int .i64 (((cs.length : Nat) : Int)), .int .i64 (((j + 1 : Nat) : Int)), .bool true, .pointer (some ⟨g, j * 1, none⟩), .string (c), .string (c), .string (hd16 c), .string (c), .string (tl16 c), .agg (kc (K)).toArray, .int .i64 (i), .string (tl16 c), .string (hd16 c), .agg (pkc (i) (tl16 c) (hd16 c) (0) (zk)).toArray, .bool true, .bool false, u 34, u 35, u 36, u 37, u 38, u 39, u 40, .pointer (some ⟨p, 0, none⟩), .pointer (some ⟨p, 0, none⟩), .pointer (some ⟨p, 39, none⟩), .map (some m), .int .i64 (i), blV E (i), .string (tl16 c), .bool false, .bool true, .pointer (some ⟨p, 0, none⟩), .int .i64 (i), .string (tl16 c), .tuple #[], v, .int .i64 (i), .string (tl16 c), .agg (tc (i, tl16 c)).toArray, .slice (some ⟨w19.heap.size, 0, none⟩) (1) (1), v23, .int .i64 (((j + 1 : Nat) : Int)), undef]), rfl, by omega, hrn.trans (tkS_new hri hb2), ?_⟩
          exact by show Ms _ _ (row 73 2 _ (r.1 ++ [(i, tl16 c)]).length _ :: _ :: _ :: _ :: bl m _ (B ++ (r.1 ++ [(i, tl16 c)])) :: _); rw [List.length_append, ← List.append_assoc]; exact (h8.up 2 rfl).up 2 rfl
      · skip
        refine wl_region (wl_give rfl (g_load_all 23 _ (w.heap.size) (kc (K)) 23 _ rfl (hM.get 5 rfl) Tryz.underlying23 rfl (szK _) ?_))
        refine wl_fare kn ?_
        simp (config := { maxSteps := 10000000 }) (disch := omega) only [fx, pv, kx]
        refine wl_give rfl (g_bldPk3 _ _ _ (i) (tl16 c) (hd16 c) rfl rfl rfl ?_)
        try simp only [nz]
        refine wl_give rfl (g_cM hM (kf94 _ _) (sright_any K i (tl16 c) (hd16 c) 0 zk w14 (hM.tabs hT) (by rw [tl16_size]; omega) (by rw [hd16_size hc.1]; unfold maxLen; decide) false ⟨decide_eq_false hri⟩) rfl fun w24 hM => wl_fare kn ?_)
        simp (disch := omega) only [fx, pv, kx]
        refine wl_nil (κ15 _ _ ?_)
        refine wp_cond_true rfl (wl_region (wl_fare kn ?_))
        simp (config := { maxSteps := 10000000 }) (disch := omega) only [fx, pv, kx, (hM.get 2 rfl).cell 40 (.int .i64 (r.2)) (rv_40 _ _ _ _ _ _ _), ((e2.out) : IntKind.i64.wrap ((r.2) + (1)) = r.2 + 1)]
        refine wl_give rfl (g_st1 3 _ _ (p) (40) (.int .i64 (r.2 + 1)) _ 95 rfl rfl (hM.get 2 rfl) (by rw [rcc_length]; decide) rfl rfl size3 fun w25 t_ b_ => ?_)
        replace hM : Ms w0 w25 (sl 9 1 g k8 cs.length (cs.map Value.string) :: row 73 2 v ((r.1).length) (tcs (r.1)) :: blk (p) (rcc (P) (k) (n) (mo) (.pointer (some ⟨q, 0, none⟩)) (.map (some m)) (r.2 + 1)) 95 :: bf q x y (d) (notI i L) :: bl m E (B ++ r.1) :: blk (w.heap.size) (kc (K)) 23 :: R) := hM.put 2 rfl t_ (rv_set40 _ _ _ _ _ _ _ _ ▸ b_)
        clear t_ b_
        try simp only [nz]
        refine wl_nil (κ11 _ _ ?_)
        refine wl_region (wl_fare kn ?_)
        simp (disch := omega) only [fx, pv, kx, ((e1.out) : IntKind.i64.wrap ((((j : Nat) : Int)) + (1)) = ((j + 1 : Nat) : Int))]
        refine wl_nil ?_
        (try simp only [Exit.then, Exit.inBlock, ↓reduceIte, Nat.reduceEqDiff])
        have h8 := sl_row ((((((hM.up 5 rfl).up 5 rfl).up 5 rfl).up 5 rfl).up 5 rfl).up 5 rfl)
        refine ⟨z - 1, by omega, j + 1, (r.1, r.2 + 1), E, _, (tls [.pointer (some ⟨p, 0, none⟩), .int .i64 (i), .agg (kc (K)).toArray, undef, undef, .pointer (some ⟨w.heap.size, 0, none⟩), .slice none (0) (0), v, undef, .string (c), .string (hd16 c), .string (tl16 c), .pointer (some ⟨p, 0, none⟩), .pointer (some ⟨p, 0, none⟩), .pointer (some ⟨p, 38, none⟩), .pointer (some ⟨q, 0, none⟩), .int .i64 (i), .slice (some ⟨g, 0, none⟩) (cs.length) (k8), .int .i64 (((cs.length : Nat) : Int)), .int .i64 (((j + 1 : Nat) : Int)), .bool true, .pointer (some ⟨g, j * 1, none⟩), .string (c), .string (c), .string (hd16 c), .string (c), .string (tl16 c), .agg (kc (K)).toArray, .int .i64 (i), .string (tl16 c), .string (hd16 c), .agg (pkc (i) (tl16 c) (hd16 c) (0) (zk)).toArray, .bool false, .bool true, .pointer (some ⟨p, 0, none⟩), .pointer (some ⟨p, 0, none⟩), .pointer (some ⟨p, 40, none⟩), .int .i64 (r.2), .int .i64 (r.2 + 1), .pointer (some ⟨p, 0, none⟩), .pointer (some ⟨p, 40, none⟩), u 41, u 42, u 43, u 44, u 45, u 46, u 47, u 48, u 49, u 50, u 51, u 52, u 53, u 54, u 55, u 56, u 57, u 58, u 59, .int .i64 (((j + 1 : Nat) : Int)), undef]), rfl, by omega, hrn.trans (tkS_wrong hri), ?_⟩
        exact (h8.up 2 rfl).up 2 rfl
  · have hjn : j = cs.length := by omega
    rw [hjn, List.take_length, hR] at hr
    subst hr
    refine wp_seq_k fun _ κ26 => wl_region (wl_fare kn ?_)
    simp (disch := omega) only [fx, pv, kx]
    refine wl_nil (κ26 _ _ ?_)
    refine wp_seq_k fun _ κ27 => wp_cond_false rfl ?_
    refine wp_exit (κ4 _ _ ?_)
    refine wp_seq_k fun _ κ28 => wl_region (wl_fare kn ?_)
    simp (disch := omega) only [fx, pv, kx]
    refine wl_nil (κ28 _ _ ?_)
    refine wp_ret ?_
    go_ret
    exact ⟨_, _, rfl, ((((((hM.erase 2).erase 4).up 3 rfl).up 3 rfl).up 3 rfl).up 3 rfl)⟩
theorem take_go {w0 w : World} {R : List HP} {p q m x : Nat} {P : Pl} {k : Ky} {n mo wr y d : Int} {L B : List Thg} {E : List (Int × Nat)} (i : Int) (K : Ky) (hM : Ms w0 w (blk (p) (rcc (P) (k) (n) (mo) (.pointer (some ⟨q, 0, none⟩)) (.map (some m)) (wr)) 95 :: bf q x y (d) (L) :: bl m E (B) :: R)) (hT : Tabs w0) (hL : L.length ≤ 10000) (hw : 0 ≤ wr ∧ wr ≤ 10000) (hsz : ∀ t ∈ L, 16 ≤ t.2.size ∧ t.2.size ≤ 1016) (r : List Thg × Int) (hR : Shut (tkF K i B (ofI i L) ([], wr) = r)) : Calls Tryz.prog 69 #[.pointer (some ⟨p, 0, none⟩), .int .i64 i, .agg (kc K).toArray] w fun e w' => ∃ (v : Value) (E' : List (Int × Nat)), e = .returned v ∧ Ms w0 w' (row 73 2 v ((r.1).length) (tcs (r.1)) :: blk (p) (rcc (P) (k) (n) (mo) (.pointer (some ⟨q, 0, none⟩)) (.map (some m)) (r.2)) 95 :: bf q x y (d) (notI i L) :: bl m E' (B ++ r.1) :: R) :=
  take_a i K hM hT hL hw _ rfl (Nat.le_trans (ofI_le i L) hL) (fun c hc => hsz _ (mem_ofI.1 hc)) r hR.out
end Go.Proofs.YtcclcemdodoiiaaGreatDoor
