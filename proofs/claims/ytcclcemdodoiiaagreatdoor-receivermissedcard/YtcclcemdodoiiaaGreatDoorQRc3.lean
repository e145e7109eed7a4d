/- What (*Receiver).believe, Learn and Got answer and do, and receiver.New; a receiver in memory as a part of its own. -/
import Derived.Test.YtcclcemdodoiiaaGreatDoorQRunG
import Derived.Test.YtcclcemdodoiiaaGreatDoorQRc2
import Derived.WalkKit
import Derived.WalkSpells
import Derived.WalkLawsBesides
namespace Go.Proofs.YtcclcemdodoiiaaGreatDoor
set_option maxRecDepth 10000
open Go Go.RowKit
set_option linter.unusedVariables false
set_option linter.unusedSimpArgs false

theorem tl_lo {k : Ky} {n i : Int} (h : 0 ≤ i) (h2 : i ≤ n) (h3 : n ≤ 4096) : tl k n i = (wl (n - i).toNat k, 0) := by
  unfold tl; rw [if_neg (by omega), show min (n - i) 4096 = n - i by omega]
theorem tl_hi {k : Ky} {n i : Int} (h2 : n < i) : tl k n i = (zk, 1) := by
  unfold tl; rw [if_pos (.inr h2)]
set_option maxHeartbeats 4000000 in
theorem believe_a {w0 w : World} {R : List HP} {p q m x : Nat} {P : Pl} {k : Ky} {n mo wr y d : Int} {L B : List Thg} {E : List (Int × Nat)} (hM : Ms w0 w (blk (p) (rcc (P) (k) (n) (mo) (.pointer (some ⟨q, 0, none⟩)) (.map (some m)) (wr)) 95 :: bf q x y (d) (L) :: bl m E (B) :: R)) (hT : Tabs w0) (hL : L.length ≤ 1000) (hn : 0 ≤ n ∧ n ≤ 1024) (hw : 0 ≤ wr ∧ wr ≤ 5000) (hsz : ∀ t ∈ L, 1 ≤ t.1 ∧ 16 ≤ t.2.size ∧ t.2.size ≤ 1016) (is : List Int) (his : ivs L = is) (hil : is.length ≤ 1000) (hiz : ∀ i ∈ is, 1 ≤ i) (r : (List Thg × Int) × List Thg) (hR : blF k n B is (([], wr), L) = r) : Calls Tryz.prog 44 #[.pointer (some ⟨p, 0, none⟩)] w fun e w' => ∃ (v : Value) (E' : List (Int × Nat)), e = .returned v ∧ Ms w0 w' (row 73 2 v ((r.1.1).length) (tcs (r.1.1)) :: blk (p) (rcc (P) (k) (n) (mo) (.pointer (some ⟨q, 0, none⟩)) (.map (some m)) (r.1.2)) 95 :: bf q x y (d) (r.2) :: bl m E' (B ++ r.1.1) :: R) := by
  go_enter Tryz.func44, Tryz.ntmps44
  refine wp_seq_k fun _ κ1 => wl_region (wl_fare kn ?_)
  simp (disch := omega) only [fx, pv, kx]
  refine wl_nil (κ1 _ _ ?_)
  refine wp_seq_k fun _ κ2 => wl_region (wl_fare kn ?_)
  simp (disch := omega) only [fx, pv, kx]
  refine wl_nil (κ2 _ _ ?_)
  refine wp_seq_k fun _ κ3 => wp_seq_k fun _ κ4 => wl_region (wl_fare kn ?_)
  simp (disch := omega) only [fx, pv, kx, (hM.get 0 rfl).cell 38 (.pointer (some ⟨q, 0, none⟩)) (rv_38 _ _ _ _ _ _ _)]
  refine wl_give rfl (g_call 68 _ _ [.pointer (some ⟨q, 0, none⟩)] (kf68 _ _) rfl ((ivals_c his (show Ms w0 w (bf q x y (d) (L) :: blk (p) (rcc (P) (k) (n) (mo) (.pointer (some ⟨q, 0, none⟩)) (.map (some m)) (wr)) 95 :: bl m E (B) :: R) from (hM.up 1 rfl)) (by omega)).mono ?_))
  rintro e w5 ⟨o6, k7, rfl, h_⟩
  refine ⟨_, rfl, ?_⟩
  replace hM : Ms w0 w5 (row 3 1 (.slice o6 is.length k7) (is.length) (is.map encZ) :: bf q x y (d) (L) :: blk (p) (rcc (P) (k) (n) (mo) (.pointer (some ⟨q, 0, none⟩)) (.map (some m)) (wr)) 95 :: bl m E (B) :: R) := h_
  clear h_
  try simp only [nz]
  refine wl_give rfl (g_len _ 135 3 (o6) (is.length) (k7) (((is.length : Nat) : Int)) Tryz.underlying135 rfl (rfl) ?_)
  refine wl_fare kn ?_
  simp (disch := omega) only [fx, pv, kx]
  refine wl_nil (κ4 _ _ ?_)
  refine wp_block ?_
  have h9 : Ms w0 w5 (row 73 2 (.slice none 0 0) (0) (tcs ([])) :: blk (p) (rcc (P) (k) (n) (mo) (.pointer (some ⟨q, 0, none⟩)) (.map (some m)) (wr)) 95 :: row 3 1 (.slice o6 is.length k7) (is.length) (is.map encZ) :: bf q x y (d) (L) :: bl m E (B ++ []) :: R) := by rw [List.append_nil]; exact row_nil ((((hM.up 3 rfl).up 2 rfl).up 2 rfl).up 3 rfl)
  clear hM
  refine wp_rounds (fun z a wr_ => ∃ (j : Nat) (r : (List Thg × Int) × List Thg) (E : List (Int × Nat)) (v : Value) (t : Nat → Value), a = ⟨#[.pointer (some ⟨p, 0, none⟩), undef, .slice none (0) (0), v, undef, t 5, t 6, t 7, .pointer (some ⟨p, 0, none⟩), .pointer (some ⟨p, 0, none⟩), .pointer (some ⟨p, 38, none⟩), .pointer (some ⟨q, 0, none⟩), .slice o6 (is.length) (k7), .int .i64 (((is.length : Nat) : Int)), .int .i64 ((j : Nat) : Int), t 15, t 16, t 17, t 18, t 19, t 20, t 21, t 22, t 23, t 24, t 25, t 26, t 27, t 28, t 29, t 30, t 31, t 32, t 33, t 34, t 35, undef], []⟩ ∧ j + z = is.length ∧ blF k n B (is.take j) (([], wr), L) = r ∧ Ms w0 wr_ (row 73 2 v ((r.1.1).length) (tcs (r.1.1)) :: blk (p) (rcc (P) (k) (n) (mo) (.pointer (some ⟨q, 0, none⟩)) (.map (some m)) (r.1.2)) 95 :: row 3 1 (.slice o6 is.length k7) (is.length) (is.map encZ) :: bf q x y (d) (r.2) :: bl m E (B ++ r.1.1) :: R)) _ ⟨0, (([], wr), L), E, .slice none 0 0, (tls [.pointer (some ⟨p, 0, none⟩), undef, .slice none (0) (0), .slice none (0) (0), undef, undef, undef, undef, .pointer (some ⟨p, 0, none⟩), .pointer (some ⟨p, 0, none⟩), .pointer (some ⟨p, 38, none⟩), .pointer (some ⟨q, 0, none⟩), .slice o6 (is.length) (k7), .int .i64 (((is.length : Nat) : Int)), .int .i64 (0), undef, undef, undef, undef, undef, undef, undef, undef, undef, undef, undef, undef, undef, undef, undef, undef, undef, undef, undef, undef, undef, undef]), rfl, Nat.zero_add _, rfl, h9⟩ ?_
  clear h9
  rintro z a wr_ ⟨j, r, E, v, u, rfl, hj, hr, hM⟩
  have hbd := blF_bd k n B (is.take j) (([], wr), L)
  rw [hr] at hbd
  have hr1 : r.1.1.length + r.2.length ≤ 1000 ∧ 0 ≤ r.1.2 ∧ r.1.2 ≤ 6000 ∧ ∀ t ∈ r.2, t ∈ L := by obtain ⟨b1, b2, b3, b4⟩ := hbd; simp only [List.length_nil] at b1 b2 b3; exact ⟨by omega, by omega, by omega, b4⟩
  clear hbd
  by_cases hlt : ((j : Nat) : Int) < ((is.length : Nat) : Int)
  · have hjl : j < is.length := by omega
    obtain ⟨i, ht⟩ : ∃ i, is[j]? = some i := ⟨_, List.getElem?_eq_getElem hjl⟩
    have hi1 := hiz i (List.mem_of_getElem? ht)
    have htk : is.take (j + 1) = is.take j ++ [i] := by rw [List.take_add_one, ht]; rfl
    have hrn : blF k n B (is.take (j + 1)) (([], wr), L) = blS k n B r i := by rw [htk, blF_snoc, hr]
    have e1 : Shut (IntKind.i64.wrap (((j : Nat) : Int) + 1) = ((j + 1 : Nat) : Int)) := ⟨by rw [wrap_id _ (by omega) (by omega)]; omega⟩
    obtain ⟨g, c9, hv, hM⟩ := row_sl (hM.up 2 rfl) (by omega)
    cases hv
    replace hM : Ms w0 wr_ (sl 3 1 g k7 is.length (is.map encZ) :: row 73 2 v ((r.1.1).length) (tcs (r.1.1)) :: blk (p) (rcc (P) (k) (n) (mo) (.pointer (some ⟨q, 0, none⟩)) (.map (some m)) (r.1.2)) 95 :: bf q x y (d) (r.2) :: bl m E (B ++ r.1.1) :: R) := hM
    refine wp_seq_k fun _ κ8 => wl_region (wl_fare kn ?_)
    simp (disch := omega) only [fx, pv, kx]
    refine wl_nil (κ8 _ _ ?_)
    refine wp_seq_k fun _ κ9 => wp_cond_true rfl (wp_skip ?_)
    refine κ9 _ _ (wp_seq_k fun _ κ10 => ?_)
    refine wp_block (wp_seq_k fun _ κ11 => ?_)
    refine wl_region (wl_give rfl (g_ix _ _ 135 3 1 Tryz.underlying135 szof3 g 0 is.length k7 j (j * 1) _ rfl rfl rfl hjl (Nat.zero_add _) ?_))
    try simp only [nz]
    refine wl_give rfl (g_ld1 3 _ (g) (j * 1) _ rfl (ld3 _ _ _ _ (by rw [Nat.mul_one]; exact sl_cell hM j _ (enc_at ht))) ?_)
    refine wl_fare kn ?_
    simp (disch := omega) only [fx, pv, kx]
    refine wl_nil (κ11 _ _ ?_)
    refine wp_seq_k fun _ κ12 => ?_
    by_cases hin : i ≤ n
    · obtain ⟨K, hK⟩ : ∃ K, wl (n - i).toNat k = K := ⟨_, rfl⟩
      obtain ⟨q9, hq9⟩ : ∃ q9, tkF K i (B ++ r.1.1) (ofI i r.2) ([], r.1.2) = q9 := ⟨_, rfl⟩
      refine wl_region (wl_fare kn ?_)
      simp (disch := omega) only [fx, pv, kx]
      refine wl_give rfl (g_load 92 _ (p) (4) 33 _ 95 _ rfl (hM.get 2 rfl) fieldsM rfl sizeMi (by rw [rcc_length]; decide) (mc (k) (n)) (rv_mind _ _ _ _ _ _ _) ?_)
      refine wl_fare kn ?_
      simp (disch := omega) only [fx, pv, kx]
      refine wl_give rfl (g_cM hM (kf42 _ _) (tell_any k n i wr_ (hM.tabs hT) K 0 (by omega) ⟨by rw [← hK]; exact tl_lo (by omega) hin (by omega)⟩) rfl fun w13 hM => wl_fare kn ?_)
      simp (disch := omega) only [fx, pv, kx]
      refine wl_give rfl (g_alloc 23 (kc (zk)) zeroK fun w14 t_ b_ => ?_)
      replace hM := hM.new t_ b_
      clear t_ b_
      try simp only [nz]
      refine wl_give rfl (g_store_all 23 _ _ (w13.heap.size) (kc (K)) _ 23 rfl rfl (hM.get 0 rfl) (szK _) (kk_len _ _) (one_kc _) fun w15 t_ b_ => ?_)
      replace hM : Ms w0 w15 (blk (w13.heap.size) (kc (K)) 23 :: sl 3 1 g k7 is.length (is.map encZ) :: row 73 2 v ((r.1.1).length) (tcs (r.1.1)) :: blk (p) (rcc (P) (k) (n) (mo) (.pointer (some ⟨q, 0, none⟩)) (.map (some m)) (r.1.2)) 95 :: bf q x y (d) (r.2) :: bl m E (B ++ r.1.1) :: R) := hM.put 0 rfl t_ b_
      clear t_ b_
      refine wl_fare kn ?_
      simp (disch := omega) only [fx, pv, kx]
      refine wl_nil (κ12 _ _ ?_)
      refine wp_seq_k fun _ κ16 => wl_region (wl_fare kn ?_)
      simp (disch := omega) only [fx, pv, kx]
      refine wl_nil (κ16 _ _ ?_)
      refine wp_cond_true rfl (wl_region (wl_fare kn ?_))
      simp (disch := omega) only [fx, pv, kx]
      refine wl_give rfl (g_load_all 23 _ (w13.heap.size) (kc (K)) 23 _ rfl (hM.get 0 rfl) Tryz.underlying23 rfl (szK _) ?_)
      try simp only [nz]
      refine wl_give rfl (g_call 69 _ _ [.pointer (some ⟨p, 0, none⟩), .int .i64 (i), .agg (kc (K)).toArray] (kf69 _ _) rfl ((take_go i K (show Ms w0 w15 (blk (p) (rcc (P) (k) (n) (mo) (.pointer (some ⟨q, 0, none⟩)) (.map (some m)) (r.1.2)) 95 :: bf q x y (d) (r.2) :: bl m E (B ++ r.1.1) :: blk (w13.heap.size) (kc (K)) 23 :: sl 3 1 g k7 is.length (is.map encZ) :: row 73 2 v ((r.1.1).length) (tcs (r.1.1)) :: R) from (((hM.up 5 rfl).up 5 rfl).up 5 rfl)) hT (by omega) ⟨by omega, by omega⟩ (fun t h => (hsz t (hr1.2.2.2 t h)).2) q9 ⟨hq9⟩).mono ?_))
      rintro e w17 ⟨v18, F19, rfl, h_⟩
      refine ⟨_, rfl, ?_⟩
      replace hM : Ms w0 w17 (row 73 2 v18 ((q9.1).length) (tcs (q9.1)) :: blk (p) (rcc (P) (k) (n) (mo) (.pointer (some ⟨q, 0, none⟩)) (.map (some m)) (q9.2)) 95 :: bf q x y (d) (notI i r.2) :: bl m F19 (B ++ r.1.1 ++ q9.1) :: blk (w13.heap.size) (kc (K)) 23 :: sl 3 1 g k7 is.length (is.map encZ) :: row 73 2 v ((r.1.1).length) (tcs (r.1.1)) :: R) := h_
      clear h_
      try simp only [nz]
      refine wl_give rfl (g_arH _ _ (v) ((r.1.1).length) (r.1.1) (v18) ((q9.1).length) (q9.1) rfl rfl (show Ms w0 w17 (row 73 2 v ((r.1.1).length) (tcs (r.1.1)) :: row 73 2 v18 ((q9.1).length) (tcs (q9.1)) :: blk (p) (rcc (P) (k) (n) (mo) (.pointer (some ⟨q, 0, none⟩)) (.map (some m)) (q9.2)) 95 :: bf q x y (d) (notI i r.2) :: bl m F19 (B ++ r.1.1 ++ q9.1) :: blk (w13.heap.size) (kc (K)) 23 :: sl 3 1 g k7 is.length (is.map encZ) :: R) from (hM.up 6 rfl)) (by have := tkF_bd K i (B ++ r.1.1) (ofI i r.2) ([], r.1.2); rw [hq9] at this; have h3 := ofI_le i r.2; simp only [List.length_nil] at this; omega) fun v21 w20 h_ => ?_)
      replace hM : Ms w0 w20 (row 73 2 v21 ((r.1.1).length + (q9.1).length) (tcs (r.1.1 ++ q9.1)) :: row 73 2 v18 ((q9.1).length) (tcs (q9.1)) :: blk (p) (rcc (P) (k) (n) (mo) (.pointer (some ⟨q, 0, none⟩)) (.map (some m)) (q9.2)) 95 :: bf q x y (d) (notI i r.2) :: bl m F19 (B ++ r.1.1 ++ q9.1) :: blk (w13.heap.size) (kc (K)) 23 :: sl 3 1 g k7 is.length (is.map encZ) :: R) := h_
      clear h_
      refine wl_fare kn ?_
      simp (disch := omega) only [fx, pv, kx]
      refine wl_nil (κ10 _ _ ?_)
      refine wl_region (wl_fare kn ?_)
      simp (disch := omega) only [fx, pv, kx, ((e1.out) : IntKind.i64.wrap ((((j : Nat) : Int)) + (1)) = ((j + 1 : Nat) : Int))]
      refine wl_nil ?_
      (try simp only [Exit.then, Exit.inBlock, ↓reduceIte, Nat.reduceEqDiff])
      have h8 := sl_row (((((((hM.erase 1).erase 4).up 3 rfl).up 3 rfl).up 3 rfl).up 3 rfl).up 4 rfl)
      refine ⟨z - 1, by omega, j + 1, ((r.1.1 ++ q9.1, q9.2), notI i r.2), F19, _, (tls [.pointer (some ⟨p, 0, none⟩), undef, .slice none (0) (0), v21, undef, .int .i64 (i), .pointer (some ⟨w13.heap.size, 0, none⟩), .int .i64 (0), .pointer (some ⟨p, 0, none⟩), .pointer (some ⟨p, 0, none⟩), .pointer (some ⟨p, 38, none⟩), .pointer (some ⟨q, 0, none⟩), .slice (some ⟨g, 0, none⟩) (is.length) (k7), .int .i64 (((is.length : Nat) : Int)), .int .i64 (((j + 1 : Nat) : Int)), .bool true, .pointer (some ⟨g, j * 1, none⟩), .int .i64 (i), .tuple #[.agg (kc (K)).toArray, .int .i64 (0)], .pointer (some ⟨p, 0, none⟩), .pointer (some ⟨p, 0, none⟩), .pointer (some ⟨p, 4, none⟩), .agg (mc (k) (n)).toArray, .int .i64 (i), .tuple #[.agg (kc (K)).toArray, .int .i64 (0)], .agg (kc (K)).toArray, .int .i64 (0), .int .i64 (0), .bool true, v, .pointer (some ⟨p, 0, none⟩), .int .i64 (i), .agg (kc (K)).toArray, v18, v21, .int .i64 (((j + 1 : Nat) : Int)), undef]), rfl, by omega, by rw [hrn, blS_lo hin, hK, hq9], ?_⟩
      exact by show Ms _ _ (row 73 2 _ (r.1.1 ++ q9.1).length _ :: _ :: _ :: _ :: bl m _ (B ++ (r.1.1 ++ q9.1)) :: _); rw [List.length_append, ← List.append_assoc]; exact (h8.up 2 rfl).up 2 rfl
    · skip
      refine wl_region (wl_fare kn ?_)
      simp (disch := omega) only [fx, pv, kx]
      refine wl_give rfl (g_load 92 _ (p) (4) 33 _ 95 _ rfl (hM.get 2 rfl) fieldsM rfl sizeMi (by rw [rcc_length]; decide) (mc (k) (n)) (rv_mind _ _ _ _ _ _ _) ?_)
      refine wl_fare kn ?_
      simp (disch := omega) only [fx, pv, kx]
      refine wl_give rfl (g_cM hM (kf42 _ _) (tell_any k n i wr_ (hM.tabs hT) zk 1 (by omega) ⟨tl_hi (by omega)⟩) rfl fun w22 hM => wl_fare kn ?_)
      simp (disch := omega) only [fx, pv, kx]
      refine wl_give rfl (g_alloc 23 (kc (zk)) zeroK fun w23 t_ b_ => ?_)
      replace hM := hM.new t_ b_
      clear t_ b_
      try simp only [nz]
      refine wl_give rfl (g_store_all 23 _ _ (w22.heap.size) (kc (zk)) _ 23 rfl rfl (hM.get 0 rfl) (szK _) (kk_len _ _) (one_kc _) fun w24 t_ b_ => ?_)
      replace hM : Ms w0 w24 (blk (w22.heap.size) (kc (zk)) 23 :: sl 3 1 g k7 is.length (is.map encZ) :: row 73 2 v ((r.1.1).length) (tcs (r.1.1)) :: blk (p) (rcc (P) (k) (n) (mo) (.pointer (some ⟨q, 0, none⟩)) (.map (some m)) (r.1.2)) 95 :: bf q x y (d) (r.2) :: bl m E (B ++ r.1.1) :: R) := hM.put 0 rfl t_ b_
      clear t_ b_
      refine wl_fare kn ?_
      simp (disch := omega) only [fx, pv, kx]
      refine wl_nil (κ12 _ _ ?_)
      refine wp_seq_k fun _ κ25 => wl_region (wl_fare kn ?_)
      simp (disch := omega) only [fx, pv, kx]
      refine wl_nil (κ25 _ _ ?_)
      refine wp_cond_false rfl (wp_skip ?_)
      refine κ10 _ _ (wl_region (wl_fare kn ?_))
      simp (disch := omega) only [fx, pv, kx, ((e1.out) : IntKind.i64.wrap ((((j : Nat) : Int)) + (1)) = ((j + 1 : Nat) : Int))]
      refine wl_nil ?_
      (try simp only [Exit.then, Exit.inBlock, ↓reduceIte, Nat.reduceEqDiff])
      have h8 := sl_row ((((((hM.erase 0).up 4 rfl).up 4 rfl).up 4 rfl).up 4 rfl).up 4 rfl)
      refine ⟨z - 1, by omega, j + 1, r, E, _, (tls [.pointer (some ⟨p, 0, none⟩), undef, .slice none (0) (0), v, undef, .int .i64 (i), .pointer (some ⟨w22.heap.size, 0, none⟩), .int .i64 (1), .pointer (some ⟨p, 0, none⟩), .pointer (some ⟨p, 0, none⟩), .pointer (some ⟨p, 38, none⟩), .pointer (some ⟨q, 0, none⟩), .slice (some ⟨g, 0, none⟩) (is.length) (k7), .int .i64 (((is.length : Nat) : Int)), .int .i64 (((j + 1 : Nat) : Int)), .bool true, .pointer (some ⟨g, j * 1, none⟩), .int .i64 (i), .tuple #[.agg (kc (zk)).toArray, .int .i64 (1)], .pointer (some ⟨p, 0, none⟩), .pointer (some ⟨p, 0, none⟩), .pointer (some ⟨p, 4, none⟩), .agg (mc (k) (n)).toArray, .int .i64 (i), .tuple #[.agg (kc (zk)).toArray, .int .i64 (1)], .agg (kc (zk)).toArray, .int .i64 (1), .int .i64 (1), .bool false, u 29, u 30, u 31, u 32, u 33, u 34, .int .i64 (((j + 1 : Nat) : Int)), undef]), rfl, by omega, hrn.trans (blS_hi hin), ?_⟩
      exact (h8.up 2 rfl).up 2 rfl
  · have hjn : j = is.length := by omega
    rw [hjn, List.take_length, hR] at hr
    subst hr
    refine wp_seq_k fun _ κ26 => wl_region (wl_fare kn ?_)
    simp (disch := omega) only [fx, pv, kx]
    refine wl_nil (κ26 _ _ ?_)
    refine wp_seq_k fun _ κ27 => wp_cond_false rfl ?_
    refine wp_exit (κ3 _ _ ?_)
    refine wp_seq_k fun _ κ28 => wl_region (wl_fare kn ?_)
    simp (disch := omega) only [fx, pv, kx]
    refine wl_nil (κ28 _ _ ?_)
    refine wp_ret ?_
    go_ret
    exact ⟨_, _, rfl, (((((hM.erase 2).up 3 rfl).up 3 rfl).up 3 rfl).up 3 rfl)⟩
theorem believe_any {w0 w : World} {R : List HP} {p q m x : Nat} {P : Pl} {k : Ky} {n mo wr y d : Int} {L B : List Thg} {E : List (Int × Nat)} (hM : Ms w0 w (blk (p) (rcc (P) (k) (n) (mo) (.pointer (some ⟨q, 0, none⟩)) (.map (some m)) (wr)) 95 :: bf q x y (d) (L) :: bl m E (B) :: R)) (hT : Tabs w0) (hL : L.length ≤ 1000) (hn : 0 ≤ n ∧ n ≤ 1024) (hw : 0 ≤ wr ∧ wr ≤ 5000) (hsz : ∀ t ∈ L, 1 ≤ t.1 ∧ 16 ≤ t.2.size ∧ t.2.size ≤ 1016) (r : (List Thg × Int) × List Thg) (hR : blF k n B (ivs L) (([], wr), L) = r) : Calls Tryz.prog 44 #[.pointer (some ⟨p, 0, none⟩)] w fun e w' => ∃ (v : Value) (E' : List (Int × Nat)), e = .returned v ∧ Ms w0 w' (row 73 2 v ((r.1.1).length) (tcs (r.1.1)) :: blk (p) (rcc (P) (k) (n) (mo) (.pointer (some ⟨q, 0, none⟩)) (.map (some m)) (r.1.2)) 95 :: bf q x y (d) (r.2) :: bl m E' (B ++ r.1.1) :: R) :=
  believe_a hM hT hL hn hw hsz _ rfl (Nat.le_trans (ivs_le L) hL) (fun i hi => by obtain ⟨t, h1, h2⟩ := mem_ivs.1 hi; rw [← h2]; exact (hsz t h1).1) r hR
set_option maxHeartbeats 4000000 in
theorem learns_a {w0 w : World} {R : List HP} {p q m x : Nat} {P : Pl} {k : Ky} {n mo wr y d : Int} {L B : List Thg} {E : List (Int × Nat)} (kk : Ky) (i : Int) (hM : Ms w0 w (blk (p) (rcc (P) (k) (n) (mo) (.pointer (some ⟨q, 0, none⟩)) (.map (some m)) (wr)) 95 :: bf q x y (d) (L) :: bl m E (B) :: R)) (hT : Tabs w0) (hP : P.ct ≤ 1024) (hL : L.length ≤ 1000) (hn : 0 ≤ n ∧ n ≤ 1024) (hmo : mo ≤ 64) (hw : 0 ≤ wr ∧ wr ≤ 5000) (hsz : ∀ t ∈ L, 1 ≤ t.1 ∧ 16 ≤ t.2.size ∧ t.2.size ≤ 1016) (T : List Thg) (E2 : Int) (S2 : Rc) (h : Shut (lea (⟨P, k, n, mo, x, y, d, L, B, wr⟩ : Rc) kk i = ((T, E2), S2))) : Calls Tryz.prog 18 #[.pointer (some ⟨p, 0, none⟩), .agg (kc kk).toArray, .int .i64 i] w fun e w' => ∃ (v : Value) (E' : List (Int × Nat)), e = .returned (.tuple #[v, .int .i64 E2]) ∧ Ms w0 w' (row 73 2 v ((T).length) (tcs (T)) :: blk (p) (rcc (P) (S2.k) (S2.n) (mo) (.pointer (some ⟨q, 0, none⟩)) (.map (some m)) (S2.wr)) 95 :: bf q x y (S2.d) (S2.L) :: bl m E' (S2.B) :: R) := by
  go_enter Tryz.func18, Tryz.ntmps18
  refine wp_seq_k fun _ κ1 => wl_region (wl_give rfl (g_box 23 _ (kc (kk)) rfl ?_))
  intro w2 t_ b_
  replace hM := hM.new t_ b_
  clear t_ b_
  refine wl_fare kn ?_
  simp (disch := omega) only [fx, pv, kx]
  refine wl_nil (κ1 _ _ ?_)
  refine wp_seq_k fun _ κ3 => wp_seq_k fun _ κ4 => ?_
  by_cases h1 : i < 1
  · obtain ⟨⟨rfl, rfl⟩, rfl⟩ : (([] : List Thg) = T ∧ (1 : Int) = E2) ∧ (⟨P, k, n, mo, x, y, d, L, B, wr⟩ : Rc) = S2 := by have h := h.out; unfold lea at h; rw [if_pos (.inl h1)] at h; cases h; exact ⟨⟨rfl, rfl⟩, rfl⟩
    refine wl_region (wl_fare kn ?_)
    simp (config := { maxSteps := 10000000 }) (disch := omega) only [fx, pv, kx]
    refine wl_nil (κ4 _ _ ?_)
    refine wp_cond_true rfl (wp_seq_k fun _ κ5 => ?_)
    refine wl_region (wl_fare kn ?_)
    simp (disch := omega) only [fx, pv, kx]
    refine wl_nil (κ5 _ _ ?_)
    refine wp_ret ?_
    go_ret2
    exact ⟨_, _, rfl, row_nil ((((hM.erase 0).up 2 rfl).up 2 rfl).up 2 rfl)⟩
  · skip
    by_cases h2 : P.ct < i
    · obtain ⟨⟨rfl, rfl⟩, rfl⟩ : (([] : List Thg) = T ∧ (1 : Int) = E2) ∧ (⟨P, k, n, mo, x, y, d, L, B, wr⟩ : Rc) = S2 := by have h := h.out; unfold lea at h; rw [if_pos (.inr h2)] at h; cases h; exact ⟨⟨rfl, rfl⟩, rfl⟩
      refine wl_region (wl_fare kn ?_)
      simp (config := { maxSteps := 10000000 }) (disch := omega) only [fx, pv, kx, (hM.get 1 rfl).cell 3 (.int .i64 ((P).ct)) (rv_3 _ _ _ _ _ _ _)]
      refine wl_nil (κ4 _ _ ?_)
      refine wp_cond_true rfl (wp_seq_k fun _ κ6 => ?_)
      refine wl_region (wl_fare kn ?_)
      simp (disch := omega) only [fx, pv, kx]
      refine wl_nil (κ6 _ _ ?_)
      refine wp_ret ?_
      go_ret2
      exact ⟨_, _, rfl, row_nil ((((hM.erase 0).up 2 rfl).up 2 rfl).up 2 rfl)⟩
    · skip
      refine wl_region (wl_fare kn ?_)
      simp (config := { maxSteps := 10000000 }) (disch := omega) only [fx, pv, kx, (hM.get 1 rfl).cell 3 (.int .i64 ((P).ct)) (rv_3 _ _ _ _ _ _ _)]
      refine wl_nil (κ4 _ _ ?_)
      refine wp_cond_false rfl (wp_skip ?_)
      refine κ3 _ _ (wp_seq_k fun _ κ7 => ?_)
      refine wp_seq_k fun _ κ8 => ?_
      by_cases h3 : i ≤ n
      · obtain ⟨K, hK⟩ : ∃ K, wl (n - i).toNat k = K := ⟨_, rfl⟩
        refine wl_region (wl_fare kn ?_)
        simp (config := { maxSteps := 10000000 }) (disch := omega) only [fx, pv, kx]
        refine wl_give rfl (g_load 92 _ (p) (4) 33 _ 95 _ rfl (hM.get 1 rfl) fieldsM rfl sizeMi (by rw [rcc_length]; decide) (mc (k) (n)) (rv_mind _ _ _ _ _ _ _) ?_)
        refine wl_fare kn ?_
        simp (disch := omega) only [fx, pv, kx]
        refine wl_give rfl (g_cM hM (kf42 _ _) (tell_any k n i w2 (hM.tabs hT) K 0 (by omega) ⟨by rw [← hK]; exact tl_lo (by omega) h3 (by omega)⟩) rfl fun w9 hM => wl_fare kn ?_)
        simp (config := { maxSteps := 10000000 }) (disch := omega) only [fx, pv, kx]
        refine wl_give rfl (g_alloc 23 (kc (zk)) zeroK fun w10 t_ b_ => ?_)
        replace hM := hM.new t_ b_
        clear t_ b_
        try simp only [nz]
        refine wl_give rfl (g_store_all 23 _ _ (w9.heap.size) (kc (K)) _ 23 rfl rfl (hM.get 0 rfl) (szK _) (kk_len _ _) (one_kc _) fun w11 t_ b_ => ?_)
        replace hM : Ms w0 w11 (blk (w9.heap.size) (kc (K)) 23 :: blk (w.heap.size) (kc (kk)) 23 :: blk (p) (rcc (P) (k) (n) (mo) (.pointer (some ⟨q, 0, none⟩)) (.map (some m)) (wr)) 95 :: bf q x y (d) (L) :: bl m E (B) :: R) := hM.put 0 rfl t_ b_
        clear t_ b_
        refine wl_fare kn ?_
        simp (disch := omega) only [fx, pv, kx]
        refine wl_nil (κ8 _ _ ?_)
        refine wp_seq_k fun _ κ12 => wl_region (wl_fare kn ?_)
        simp (disch := omega) only [fx, pv, kx]
        refine wl_nil (κ12 _ _ ?_)
        refine wp_cond_true rfl (wp_seq_k fun _ κ13 => ?_)
        refine wp_seq_k fun _ κ14 => ?_
        by_cases h4 : kk.l = K.l
        · obtain ⟨⟨rfl, rfl⟩, rfl⟩ : (([] : List Thg) = T ∧ (0 : Int) = E2) ∧ (⟨P, k, n, mo, x, y, d, L, B, wr⟩ : Rc) = S2 := by have h := h.out; unfold lea at h; rw [if_neg (by show ¬ (i < 1 ∨ P.ct < i); omega)] at h; rw [if_pos h3] at h; dsimp only at h; rw [hK, if_pos h4.symm] at h; cases h; exact ⟨⟨rfl, rfl⟩, rfl⟩
          refine wl_region (wl_give rfl (g_load_all 23 _ (w.heap.size) (kc (kk)) 23 _ rfl (hM.get 1 rfl) Tryz.underlying23 rfl (szK _) ?_))
          try simp only [nz]
          refine wl_give rfl (g_load_all 23 _ (w9.heap.size) (kc (K)) 23 _ rfl (hM.get 0 rfl) Tryz.underlying23 rfl (szK _) ?_)
          try simp only [nz]
          refine wl_give rfl (g_nK _ _ (kk) (K) true false rfl rfl (decide_eq_true h4) rfl ?_)
          try simp only [nz]
          refine wl_nil (κ14 _ _ ?_)
          refine wp_cond_false rfl (wp_skip ?_)
          refine κ13 _ _ (wp_seq_k fun _ κ15 => ?_)
          refine wl_region (wl_fare kn ?_)
          simp (disch := omega) only [fx, pv, kx]
          refine wl_nil (κ15 _ _ ?_)
          refine wp_ret ?_
          go_ret2
          exact ⟨_, _, rfl, row_nil (((((hM.erase 0).erase 0).up 2 rfl).up 2 rfl).up 2 rfl)⟩
        · obtain ⟨⟨rfl, rfl⟩, rfl⟩ : (([] : List Thg) = T ∧ (13 : Int) = E2) ∧ (⟨P, k, n, mo, x, y, d, L, B, wr⟩ : Rc) = S2 := by have h := h.out; unfold lea at h; rw [if_neg (by show ¬ (i < 1 ∨ P.ct < i); omega)] at h; rw [if_pos h3] at h; dsimp only at h; rw [hK, if_neg (fun e => h4 e.symm)] at h; cases h; exact ⟨⟨rfl, rfl⟩, rfl⟩
          refine wl_region (wl_give rfl (g_load_all 23 _ (w.heap.size) (kc (kk)) 23 _ rfl (hM.get 1 rfl) Tryz.underlying23 rfl (szK _) ?_))
          try simp only [nz]
          refine wl_give rfl (g_load_all 23 _ (w9.heap.size) (kc (K)) 23 _ rfl (hM.get 0 rfl) Tryz.underlying23 rfl (szK _) ?_)
          try simp only [nz]
          refine wl_give rfl (g_nK _ _ (kk) (K) false true rfl rfl (decide_eq_false h4) rfl ?_)
          try simp only [nz]
          refine wl_nil (κ14 _ _ ?_)
          refine wp_cond_true rfl (wp_seq_k fun _ κ16 => ?_)
          refine wl_region (wl_fare kn ?_)
          simp (disch := omega) only [fx, pv, kx]
          refine wl_nil (κ16 _ _ ?_)
          refine wp_ret ?_
          go_ret2
          exact ⟨_, _, rfl, row_nil (((((hM.erase 0).erase 0).up 2 rfl).up 2 rfl).up 2 rfl)⟩
      · skip
        refine wl_region (wl_fare kn ?_)
        simp (config := { maxSteps := 10000000 }) (disch := omega) only [fx, pv, kx]
        refine wl_give rfl (g_load 92 _ (p) (4) 33 _ 95 _ rfl (hM.get 1 rfl) fieldsM rfl sizeMi (by rw [rcc_length]; decide) (mc (k) (n)) (rv_mind _ _ _ _ _ _ _) ?_)
        refine wl_fare kn ?_
        simp (disch := omega) only [fx, pv, kx]
        refine wl_give rfl (g_cM hM (kf42 _ _) (tell_any k n i w2 (hM.tabs hT) zk 1 (by omega) ⟨tl_hi (by omega)⟩) rfl fun w17 hM => wl_fare kn ?_)
        simp (config := { maxSteps := 10000000 }) (disch := omega) only [fx, pv, kx]
        refine wl_give rfl (g_alloc 23 (kc (zk)) zeroK fun w18 t_ b_ => ?_)
        replace hM := hM.new t_ b_
        clear t_ b_
        try simp only [nz]
        refine wl_give rfl (g_store_all 23 _ _ (w17.heap.size) (kc (zk)) _ 23 rfl rfl (hM.get 0 rfl) (szK _) (kk_len _ _) (one_kc _) fun w19 t_ b_ => ?_)
        replace hM : Ms w0 w19 (blk (w17.heap.size) (kc (zk)) 23 :: blk (w.heap.size) (kc (kk)) 23 :: blk (p) (rcc (P) (k) (n) (mo) (.pointer (some ⟨q, 0, none⟩)) (.map (some m)) (wr)) 95 :: bf q x y (d) (L) :: bl m E (B) :: R) := hM.put 0 rfl t_ b_
        clear t_ b_
        refine wl_fare kn ?_
        simp (disch := omega) only [fx, pv, kx]
        refine wl_nil (κ8 _ _ ?_)
        refine wp_seq_k fun _ κ20 => wl_region (wl_fare kn ?_)
        simp (disch := omega) only [fx, pv, kx]
        refine wl_nil (κ20 _ _ ?_)
        refine wp_cond_false rfl (wp_skip ?_)
        refine κ7 _ _ (wp_seq_k fun _ κ21 => ?_)
        by_cases h5 : mo < i - n
        · obtain ⟨⟨rfl, rfl⟩, rfl⟩ : (([] : List Thg) = T ∧ (16 : Int) = E2) ∧ (⟨P, k, n, mo, x, y, d, L, B, wr⟩ : Rc) = S2 := by have h := h.out; unfold lea at h; rw [if_neg (by show ¬ (i < 1 ∨ P.ct < i); omega)] at h; rw [if_neg h3, if_pos h5] at h; cases h; exact ⟨⟨rfl, rfl⟩, rfl⟩
          have hck : ck k n kk i mo = 16 := by unfold ck; rw [if_neg (by omega), if_pos (.inl h5)]
          have hln : ln k n kk i mo = ((zk, 0), 16) := by unfold ln; rw [hck, if_neg (by decide)]
          refine wp_region_steps (by kernel_rfl) (by kernel_rfl) [14, 15] [0, 0, 0, 0, 0, 0, 0, 0, 0, 0, 0, 0, 0, 0, 0, 1, 2] [1, 1, 1, 1, 1, 1, 1, 1, 1, 1, 1, 1, 1, 2, 1, 2, 2] (by kernel_rfl) (Pm := Nat) (fun π => [.pointer (some ⟨p, 0, none⟩), .pointer (some ⟨p, 0, none⟩), .pointer (some ⟨p, 4, none⟩), .agg (mc (k) (n)).toArray, .agg (kc (kk)).toArray, .int .i64 (i), .pointer (some ⟨p, 0, none⟩), .pointer (some ⟨p, 0, none⟩), .pointer (some ⟨p, 37, none⟩), .int .i64 (mo), .tuple #[.agg (mc (zk) (0)).toArray, .int .i64 (16)], .tuple #[.agg (mc (zk) (0)).toArray, .int .i64 (16)], .agg (mc (zk) (0)).toArray, .int .i64 (16), .pointer (some ⟨π, 0, none⟩), undef, .int .i64 (16)]) (fun _ => by rfl) (fun j_ π wx => match j_ with | 0 => Ms w0 wx (blk (w17.heap.size) (kc (zk)) 23 :: blk (w.heap.size) (kc (kk)) 23 :: blk (p) (rcc (P) (k) (n) (mo) (.pointer (some ⟨q, 0, none⟩)) (.map (some m)) (wr)) 95 :: bf q x y (d) (L) :: bl m E (B) :: R) | 1 => Ms w0 wx (blk (π) (mc (zk) (0)) 92 :: blk (w17.heap.size) (kc (zk)) 23 :: blk (w.heap.size) (kc (kk)) 23 :: blk (p) (rcc (P) (k) (n) (mo) (.pointer (some ⟨q, 0, none⟩)) (.map (some m)) (wr)) 95 :: bf q x y (d) (L) :: bl m E (B) :: R) | _ => Ms w0 wx (blk (π) (mc (zk) (0)) 92 :: blk (w17.heap.size) (kc (zk)) 23 :: blk (w.heap.size) (kc (kk)) 23 :: blk (p) (rcc (P) (k) (n) (mo) (.pointer (some ⟨q, 0, none⟩)) (.map (some m)) (wr)) 95 :: bf q x y (d) (L) :: bl m E (B) :: R)) (0) hM.drew ?_ ?_ ?_
          · intro j_ k_ o_ hj_ ho_ π wx hM
            rcases j_ with _ | _ | j_
            · obtain rfl := Option.some.inj hj_
              cases so ho_
              simp only [fullL, Act.put, st_a, st_s, st_0]
              change Ms _ _ _ at hM
              exact gw rfl (g_alloc 92 (mc (zk) (0)) zeroM (fun w' t_ b_ => ⟨(wx.heap.size), rfl, fun i h1 h2 => by rcases i with _ | _ | _ | _ | _ | _ | _ | _ | _ | _ | _ | _ | _ | _ | _ | _ | _ | i <;> first | rfl | trivial | exact absurd rfl h2 | exact absurd h1 (by decide), hM.new t_ b_⟩))
            · obtain rfl := Option.some.inj hj_
              cases so ho_
              simp only [fullL, Act.put, st_a, st_s, st_0]
              change Ms _ _ _ at hM
              exact gw rfl (g_store_all 92 _ _ (π) (mc (zk) (0)) _ 92 rfl rfl (hM.get 0 rfl) (szM _ _) (mm2_len _ _ _ _) (one_mc _ _) (fun w' t_ b_ => ⟨(π), rfl, fun i h1 h2 => by rcases i with _ | _ | _ | _ | _ | _ | _ | _ | _ | _ | _ | _ | _ | _ | _ | _ | _ | i <;> first | rfl | trivial | exact absurd rfl h2 | exact absurd h1 (by decide), hM.put 0 rfl t_ b_⟩))
            · simp at hj_
          · intro i_ o_ ho_ hi_ j_ hd_ hh_ hj_ π wx hM
            simp only [fullL, Act.put, st_a, st_s, st_0]
            rcases i_ with _ | _ | _ | _ | _ | _ | _ | _ | _ | _ | _ | _ | _ | _ | _ | _ | _ | i_
            · cases so ho_
              exact gw rfl (g_move _ _ rfl ⟨rfl, hM⟩)
            · cases so ho_
              exact gw rfl (g_nil _ _ rfl ⟨rfl, hM⟩)
            · cases so ho_
              exact gw rfl (g_fa _ _ _ _ _ _ rfl (faRc1 _ _ _) ⟨rfl, hM⟩)
            · cases so ho_
              rcases j_ with _ | _ | _ | j_
              · change Ms _ _ _ at hM
                exact gw rfl (g_load 92 _ (p) (4) 33 _ 95 _ rfl (hM.get 2 rfl) fieldsM rfl sizeMi (by rw [rcc_length]; decide) (mc (k) (n)) (rv_mind _ _ _ _ _ _ _) ⟨rfl, hM⟩)
              · change Ms _ _ _ at hM
                exact gw rfl (g_load 92 _ (p) (4) 33 _ 95 _ rfl (hM.get 3 rfl) fieldsM rfl sizeMi (by rw [rcc_length]; decide) (mc (k) (n)) (rv_mind _ _ _ _ _ _ _) ⟨rfl, hM⟩)
              · exact absurd hh_ (by decide)
              · exact absurd hj_ (by simp)
            · cases so ho_
              rcases j_ with _ | _ | _ | j_
              · change Ms _ _ _ at hM
                exact gw rfl (g_load_all 23 _ (w.heap.size) (kc (kk)) 23 _ rfl (hM.get 1 rfl) Tryz.underlying23 rfl (szK _) ⟨rfl, hM⟩)
              · change Ms _ _ _ at hM
                exact gw rfl (g_load_all 23 _ (w.heap.size) (kc (kk)) 23 _ rfl (hM.get 2 rfl) Tryz.underlying23 rfl (szK _) ⟨rfl, hM⟩)
              · exact absurd hh_ (by decide)
              · exact absurd hj_ (by simp)
            · cases so ho_
              exact gw rfl (g_move _ _ rfl ⟨rfl, hM⟩)
            · cases so ho_
              exact gw rfl (g_move _ _ rfl ⟨rfl, hM⟩)
            · cases so ho_
              exact gw rfl (g_nil _ _ rfl ⟨rfl, hM⟩)
            · cases so ho_
              exact gw rfl (g_fa _ _ _ _ _ _ rfl (faRc2 _ _ _) ⟨rfl, hM⟩)
            · cases so ho_
              rcases j_ with _ | _ | _ | j_
              · change Ms _ _ _ at hM
                exact gw rfl (g_ld1 3 _ (p) (37) _ rfl (ld3 _ _ _ _ ((hM.get 2 rfl).cell (37) _ (rv_37 _ _ _ _ _ _ _))) ⟨rfl, hM⟩)
              · change Ms _ _ _ at hM
                exact gw rfl (g_ld1 3 _ (p) (37) _ rfl (ld3 _ _ _ _ ((hM.get 3 rfl).cell (37) _ (rv_37 _ _ _ _ _ _ _))) ⟨rfl, hM⟩)
              · exact absurd hh_ (by decide)
              · exact absurd hj_ (by simp)
            · cases so ho_
              rcases j_ with _ | _ | _ | j_
              · change Ms _ _ _ at hM
                exact gw rfl (g_call 43 _ _ [.agg (mc (k) (n)).toArray, .agg (kc (kk)).toArray, .int .i64 (i), .int .i64 (mo)] (kf43 _ _) rfl ((learn_any k n kk i mo wx (hM.tabs hT) zk 0 16 (by omega) ⟨hln⟩).mono (fun _ _ ⟨h1_, h2_⟩ => ⟨_, h1_, rfl, hM.call h2_⟩)))
              · change Ms _ _ _ at hM
                exact gw rfl (g_call 43 _ _ [.agg (mc (k) (n)).toArray, .agg (kc (kk)).toArray, .int .i64 (i), .int .i64 (mo)] (kf43 _ _) rfl ((learn_any k n kk i mo wx (hM.tabs hT) zk 0 16 (by omega) ⟨hln⟩).mono (fun _ _ ⟨h1_, h2_⟩ => ⟨_, h1_, rfl, hM.call h2_⟩)))
              · exact absurd hh_ (by decide)
              · exact absurd hj_ (by simp)
            · cases so ho_
              exact gw rfl (g_move _ _ rfl ⟨rfl, hM⟩)
            · cases so ho_
              exact gw rfl (g_extract _ _ _ _ rfl rfl ⟨rfl, hM⟩)
            · cases so ho_
              exact gw rfl (g_extract _ _ _ _ rfl rfl ⟨rfl, hM⟩)
            · exact absurd (by decide) hi_
            · exact absurd (by decide) hi_
            · cases so ho_
              exact gw rfl (g_assign _ _ rfl ⟨rfl, hM⟩)
            · simp at ho_
          · simp only [fullL, Act.put, st_a, st_s, st_0]
            rintro p23 w22 hM
            replace hM : Ms w0 w22 (blk (p23) (mc (zk) (0)) 92 :: blk (w17.heap.size) (kc (zk)) 23 :: blk (w.heap.size) (kc (kk)) 23 :: blk (p) (rcc (P) (k) (n) (mo) (.pointer (some ⟨q, 0, none⟩)) (.map (some m)) (wr)) 95 :: bf q x y (d) (L) :: bl m E (B) :: R) := hM
            refine κ21 _ _ (wp_seq_k fun _ κ24 => ?_)
            refine wp_seq_k fun _ κ25 => wl_region (wl_fare kn ?_)
            simp (disch := omega) only [fx, pv, kx]
            refine wl_nil (κ25 _ _ ?_)
            refine wp_cond_true rfl (wp_seq_k fun _ κ26 => ?_)
            refine wl_region (wl_fare kn ?_)
            simp (config := { maxSteps := 10000000 }) (disch := omega) only [fx, pv, kx]
            refine wl_nil (κ26 _ _ ?_)
            refine wp_ret ?_
            go_ret2
            exact ⟨_, _, rfl, row_nil ((((((hM.erase 0).erase 0).erase 0).up 2 rfl).up 2 rfl).up 2 rfl)⟩
        · skip
          by_cases h6 : (wl (i - n).toNat kk).l = k.l
          · have hck : ck k n kk i mo = 0 := by unfold ck; rw [if_neg (by omega), if_neg (by omega), if_pos h6]
            have hln : ln k n kk i mo = ((kk, i), 0) := by unfold ln; rw [if_pos hck]
            obtain ⟨r9, hr9⟩ : ∃ r9, blF kk i B (ivs L) (([], wr), L) = r9 := ⟨_, rfl⟩
            obtain ⟨⟨rfl, rfl⟩, rfl⟩ : ((r9.1.1 : List Thg) = T ∧ (0 : Int) = E2) ∧ (⟨P, kk, i, mo, x, y, d, r9.2, B ++ r9.1.1, r9.1.2⟩ : Rc) = S2 := by have h := h.out; unfold lea at h; rw [if_neg (by show ¬ (i < 1 ∨ P.ct < i); omega)] at h; rw [if_neg h3, if_neg h5, if_pos h6] at h; unfold blv at h; dsimp only at h; rw [hr9] at h; cases h; exact ⟨⟨rfl, rfl⟩, rfl⟩
            refine wp_region_steps (by kernel_rfl) (by kernel_rfl) [14, 15] [0, 0, 0, 0, 0, 0, 0, 0, 0, 0, 0, 0, 0, 0, 0, 1, 2] [1, 1, 1, 1, 1, 1, 1, 1, 1, 1, 1, 1, 1, 2, 1, 2, 2] (by kernel_rfl) (Pm := Nat) (fun π => [.pointer (some ⟨p, 0, none⟩), .pointer (some ⟨p, 0, none⟩), .pointer (some ⟨p, 4, none⟩), .agg (mc (k) (n)).toArray, .agg (kc (kk)).toArray, .int .i64 (i), .pointer (some ⟨p, 0, none⟩), .pointer (some ⟨p, 0, none⟩), .pointer (some ⟨p, 37, none⟩), .int .i64 (mo), .tuple #[.agg (mc (kk) (i)).toArray, .int .i64 (0)], .tuple #[.agg (mc (kk) (i)).toArray, .int .i64 (0)], .agg (mc (kk) (i)).toArray, .int .i64 (0), .pointer (some ⟨π, 0, none⟩), undef, .int .i64 (0)]) (fun _ => by rfl) (fun j_ π wx => match j_ with | 0 => Ms w0 wx (blk (w17.heap.size) (kc (zk)) 23 :: blk (w.heap.size) (kc (kk)) 23 :: blk (p) (rcc (P) (k) (n) (mo) (.pointer (some ⟨q, 0, none⟩)) (.map (some m)) (wr)) 95 :: bf q x y (d) (L) :: bl m E (B) :: R) | 1 => Ms w0 wx (blk (π) (mc (zk) (0)) 92 :: blk (w17.heap.size) (kc (zk)) 23 :: blk (w.heap.size) (kc (kk)) 23 :: blk (p) (rcc (P) (k) (n) (mo) (.pointer (some ⟨q, 0, none⟩)) (.map (some m)) (wr)) 95 :: bf q x y (d) (L) :: bl m E (B) :: R) | _ => Ms w0 wx (blk (π) (mc (kk) (i)) 92 :: blk (w17.heap.size) (kc (zk)) 23 :: blk (w.heap.size) (kc (kk)) 23 :: blk (p) (rcc (P) (k) (n) (mo) (.pointer (some ⟨q, 0, none⟩)) (.map (some m)) (wr)) 95 :: bf q x y (d) (L) :: bl m E (B) :: R)) (0) hM.drew ?_ ?_ ?_
            · intro j_ k_ o_ hj_ ho_ π wx hM
              rcases j_ with _ | _ | j_
              · obtain rfl := Option.some.inj hj_
                cases so ho_
                simp only [fullL, Act.put, st_a, st_s, st_0]
                change Ms _ _ _ at hM
                exact gw rfl (g_alloc 92 (mc (zk) (0)) zeroM (fun w' t_ b_ => ⟨(wx.heap.size), rfl, fun i h1 h2 => by rcases i with _ | _ | _ | _ | _ | _ | _ | _ | _ | _ | _ | _ | _ | _ | _ | _ | _ | i <;> first | rfl | trivial | exact absurd rfl h2 | exact absurd h1 (by decide), hM.new t_ b_⟩))
              · obtain rfl := Option.some.inj hj_
                cases so ho_
                simp only [fullL, Act.put, st_a, st_s, st_0]
                change Ms _ _ _ at hM
                exact gw rfl (g_store_all 92 _ _ (π) (mc (kk) (i)) _ 92 rfl rfl (hM.get 0 rfl) (szM _ _) (mm2_len _ _ _ _) (one_mc _ _) (fun w' t_ b_ => ⟨(π), rfl, fun i h1 h2 => by rcases i with _ | _ | _ | _ | _ | _ | _ | _ | _ | _ | _ | _ | _ | _ | _ | _ | _ | i <;> first | rfl | trivial | exact absurd rfl h2 | exact absurd h1 (by decide), hM.put 0 rfl t_ b_⟩))
              · simp at hj_
            · intro i_ o_ ho_ hi_ j_ hd_ hh_ hj_ π wx hM
              simp only [fullL, Act.put, st_a, st_s, st_0]
              rcases i_ with _ | _ | _ | _ | _ | _ | _ | _ | _ | _ | _ | _ | _ | _ | _ | _ | _ | i_
              · cases so ho_
                exact gw rfl (g_move _ _ rfl ⟨rfl, hM⟩)
              · cases so ho_
                exact gw rfl (g_nil _ _ rfl ⟨rfl, hM⟩)
              · cases so ho_
                exact gw rfl (g_fa _ _ _ _ _ _ rfl (faRc1 _ _ _) ⟨rfl, hM⟩)
              · cases so ho_
                rcases j_ with _ | _ | _ | j_
                · change Ms _ _ _ at hM
                  exact gw rfl (g_load 92 _ (p) (4) 33 _ 95 _ rfl (hM.get 2 rfl) fieldsM rfl sizeMi (by rw [rcc_length]; decide) (mc (k) (n)) (rv_mind _ _ _ _ _ _ _) ⟨rfl, hM⟩)
                · change Ms _ _ _ at hM
                  exact gw rfl (g_load 92 _ (p) (4) 33 _ 95 _ rfl (hM.get 3 rfl) fieldsM rfl sizeMi (by rw [rcc_length]; decide) (mc (k) (n)) (rv_mind _ _ _ _ _ _ _) ⟨rfl, hM⟩)
                · exact absurd hh_ (by decide)
                · exact absurd hj_ (by simp)
              · cases so ho_
                rcases j_ with _ | _ | _ | j_
                · change Ms _ _ _ at hM
                  exact gw rfl (g_load_all 23 _ (w.heap.size) (kc (kk)) 23 _ rfl (hM.get 1 rfl) Tryz.underlying23 rfl (szK _) ⟨rfl, hM⟩)
                · change Ms _ _ _ at hM
                  exact gw rfl (g_load_all 23 _ (w.heap.size) (kc (kk)) 23 _ rfl (hM.get 2 rfl) Tryz.underlying23 rfl (szK _) ⟨rfl, hM⟩)
                · exact absurd hh_ (by decide)
                · exact absurd hj_ (by simp)
              · cases so ho_
                exact gw rfl (g_move _ _ rfl ⟨rfl, hM⟩)
              · cases so ho_
                exact gw rfl (g_move _ _ rfl ⟨rfl, hM⟩)
              · cases so ho_
                exact gw rfl (g_nil _ _ rfl ⟨rfl, hM⟩)
              · cases so ho_
                exact gw rfl (g_fa _ _ _ _ _ _ rfl (faRc2 _ _ _) ⟨rfl, hM⟩)
              · cases so ho_
                rcases j_ with _ | _ | _ | j_
                · change Ms _ _ _ at hM
                  exact gw rfl (g_ld1 3 _ (p) (37) _ rfl (ld3 _ _ _ _ ((hM.get 2 rfl).cell (37) _ (rv_37 _ _ _ _ _ _ _))) ⟨rfl, hM⟩)
                · change Ms _ _ _ at hM
                  exact gw rfl (g_ld1 3 _ (p) (37) _ rfl (ld3 _ _ _ _ ((hM.get 3 rfl).cell (37) _ (rv_37 _ _ _ _ _ _ _))) ⟨rfl, hM⟩)
                · exact absurd hh_ (by decide)
                · exact absurd hj_ (by simp)
              · cases so ho_
                rcases j_ with _ | _ | _ | j_
                · change Ms _ _ _ at hM
                  exact gw rfl (g_call 43 _ _ [.agg (mc (k) (n)).toArray, .agg (kc (kk)).toArray, .int .i64 (i), .int .i64 (mo)] (kf43 _ _) rfl ((learn_any k n kk i mo wx (hM.tabs hT) kk i 0 (by omega) ⟨hln⟩).mono (fun _ _ ⟨h1_, h2_⟩ => ⟨_, h1_, rfl, hM.call h2_⟩)))
                · change Ms _ _ _ at hM
                  exact gw rfl (g_call 43 _ _ [.agg (mc (k) (n)).toArray, .agg (kc (kk)).toArray, .int .i64 (i), .int .i64 (mo)] (kf43 _ _) rfl ((learn_any k n kk i mo wx (hM.tabs hT) kk i 0 (by omega) ⟨hln⟩).mono (fun _ _ ⟨h1_, h2_⟩ => ⟨_, h1_, rfl, hM.call h2_⟩)))
                · exact absurd hh_ (by decide)
                · exact absurd hj_ (by simp)
              · cases so ho_
                exact gw rfl (g_move _ _ rfl ⟨rfl, hM⟩)
              · cases so ho_
                exact gw rfl (g_extract _ _ _ _ rfl rfl ⟨rfl, hM⟩)
              · cases so ho_
                exact gw rfl (g_extract _ _ _ _ rfl rfl ⟨rfl, hM⟩)
              · exact absurd (by decide) hi_
              · exact absurd (by decide) hi_
              · cases so ho_
                exact gw rfl (g_assign _ _ rfl ⟨rfl, hM⟩)
              · simp at ho_
            · simp only [fullL, Act.put, st_a, st_s, st_0]
              rintro p28 w27 hM
              replace hM : Ms w0 w27 (blk (p28) (mc (kk) (i)) 92 :: blk (w17.heap.size) (kc (zk)) 23 :: blk (w.heap.size) (kc (kk)) 23 :: blk (p) (rcc (P) (k) (n) (mo) (.pointer (some ⟨q, 0, none⟩)) (.map (some m)) (wr)) 95 :: bf q x y (d) (L) :: bl m E (B) :: R) := hM
              refine κ21 _ _ (wp_seq_k fun _ κ29 => ?_)
              refine wp_seq_k fun _ κ30 => wl_region (wl_fare kn ?_)
              simp (disch := omega) only [fx, pv, kx]
              refine wl_nil (κ30 _ _ ?_)
              refine wp_cond_false rfl (wp_skip ?_)
              refine κ29 _ _ (wp_seq_k fun _ κ31 => ?_)
              refine wl_region (wl_fare kn ?_)
              simp (disch := omega) only [fx, pv, kx]
              refine wl_give rfl (g_load_all 92 _ (p28) (mc (kk) (i)) 92 _ rfl (hM.get 0 rfl) Tryz.underlying92 rfl (szM _ _) ?_)
              refine wl_fare kn ?_
              simp (disch := omega) only [fx, pv, kx]
              refine wl_give rfl (g_storeN 92 _ _ (p) (4) (mc (kk) (i)) _ 95 (rcc (P) (kk) (i) (mo) (.pointer (some ⟨q, 0, none⟩)) (.map (some m)) (wr)) rfl rfl (hM.get 3 rfl) (szM _ _) (by rw [mc_length, rcc_length]; decide) (one_mc _ _) (rv_putM _ _ _ _ _ _ _ _ _) fun w32 t_ b_ => ?_)
              replace hM : Ms w0 w32 (blk (p28) (mc (kk) (i)) 92 :: blk (w17.heap.size) (kc (zk)) 23 :: blk (w.heap.size) (kc (kk)) 23 :: blk (p) (rcc (P) (kk) (i) (mo) (.pointer (some ⟨q, 0, none⟩)) (.map (some m)) (wr)) 95 :: bf q x y (d) (L) :: bl m E (B) :: R) := hM.put 3 rfl t_ b_
              clear t_ b_
              try simp only [nz]
              refine wl_nil (κ31 _ _ ?_)
              refine wp_seq_k fun _ κ33 => wl_region (wl_fare kn ?_)
              simp (disch := omega) only [fx, pv, kx]
              refine wl_give rfl (g_call 44 _ _ [.pointer (some ⟨p, 0, none⟩)] (kf44 _ _) rfl ((believe_any (show Ms w0 w32 (blk (p) (rcc (P) (kk) (i) (mo) (.pointer (some ⟨q, 0, none⟩)) (.map (some m)) (wr)) 95 :: bf q x y (d) (L) :: bl m E (B) :: blk (p28) (mc (kk) (i)) 92 :: blk (w17.heap.size) (kc (zk)) 23 :: blk (w.heap.size) (kc (kk)) 23 :: R) from (((hM.up 5 rfl).up 5 rfl).up 5 rfl)) hT hL ⟨by omega, by omega⟩ hw hsz r9 hr9).mono ?_))
              rintro e w34 ⟨v35, F36, rfl, h_⟩
              refine ⟨_, rfl, ?_⟩
              replace hM : Ms w0 w34 (row 73 2 v35 ((r9.1.1).length) (tcs (r9.1.1)) :: blk (p) (rcc (P) (kk) (i) (mo) (.pointer (some ⟨q, 0, none⟩)) (.map (some m)) (r9.1.2)) 95 :: bf q x y (d) (r9.2) :: bl m F36 (B ++ r9.1.1) :: blk (p28) (mc (kk) (i)) 92 :: blk (w17.heap.size) (kc (zk)) 23 :: blk (w.heap.size) (kc (kk)) 23 :: R) := h_
              clear h_
              refine wl_fare kn ?_
              simp (disch := omega) only [fx, pv, kx]
              refine wl_nil (κ33 _ _ ?_)
              refine wp_ret ?_
              go_ret2
              exact ⟨_, _, rfl, (((((((hM.erase 4).erase 4).erase 4).up 3 rfl).up 3 rfl).up 3 rfl).up 3 rfl)⟩
          · obtain ⟨⟨rfl, rfl⟩, rfl⟩ : (([] : List Thg) = T ∧ (13 : Int) = E2) ∧ (⟨P, k, n, mo, x, y, d, L, B, wr⟩ : Rc) = S2 := by have h := h.out; unfold lea at h; rw [if_neg (by show ¬ (i < 1 ∨ P.ct < i); omega)] at h; rw [if_neg h3, if_neg h5, if_neg h6] at h; cases h; exact ⟨⟨rfl, rfl⟩, rfl⟩
            have hck : ck k n kk i mo = 13 := by unfold ck; rw [if_neg (by omega), if_neg (by omega), if_neg h6]
            have hln : ln k n kk i mo = ((zk, 0), 13) := by unfold ln; rw [hck, if_neg (by decide)]
            refine wp_region_steps (by kernel_rfl) (by kernel_rfl) [14, 15] [0, 0, 0, 0, 0, 0, 0, 0, 0, 0, 0, 0, 0, 0, 0, 1, 2] [1, 1, 1, 1, 1, 1, 1, 1, 1, 1, 1, 1, 1, 2, 1, 2, 2] (by kernel_rfl) (Pm := Nat) (fun π => [.pointer (some ⟨p, 0, none⟩), .pointer (some ⟨p, 0, none⟩), .pointer (some ⟨p, 4, none⟩), .agg (mc (k) (n)).toArray, .agg (kc (kk)).toArray, .int .i64 (i), .pointer (some ⟨p, 0, none⟩), .pointer (some ⟨p, 0, none⟩), .pointer (some ⟨p, 37, none⟩), .int .i64 (mo), .tuple #[.agg (mc (zk) (0)).toArray, .int .i64 (13)], .tuple #[.agg (mc (zk) (0)).toArray, .int .i64 (13)], .agg (mc (zk) (0)).toArray, .int .i64 (13), .pointer (some ⟨π, 0, none⟩), undef, .int .i64 (13)]) (fun _ => by rfl) (fun j_ π wx => match j_ with | 0 => Ms w0 wx (blk (w17.heap.size) (kc (zk)) 23 :: blk (w.heap.size) (kc (kk)) 23 :: blk (p) (rcc (P) (k) (n) (mo) (.pointer (some ⟨q, 0, none⟩)) (.map (some m)) (wr)) 95 :: bf q x y (d) (L) :: bl m E (B) :: R) | 1 => Ms w0 wx (blk (π) (mc (zk) (0)) 92 :: blk (w17.heap.size) (kc (zk)) 23 :: blk (w.heap.size) (kc (kk)) 23 :: blk (p) (rcc (P) (k) (n) (mo) (.pointer (some ⟨q, 0, none⟩)) (.map (some m)) (wr)) 95 :: bf q x y (d) (L) :: bl m E (B) :: R) | _ => Ms w0 wx (blk (π) (mc (zk) (0)) 92 :: blk (w17.heap.size) (kc (zk)) 23 :: blk (w.heap.size) (kc (kk)) 23 :: blk (p) (rcc (P) (k) (n) (mo) (.pointer (some ⟨q, 0, none⟩)) (.map (some m)) (wr)) 95 :: bf q x y (d) (L) :: bl m E (B) :: R)) (0) hM.drew ?_ ?_ ?_
            · intro j_ k_ o_ hj_ ho_ π wx hM
              rcases j_ with _ | _ | j_
              · obtain rfl := Option.some.inj hj_
                cases so ho_
                simp only [fullL, Act.put, st_a, st_s, st_0]
                change Ms _ _ _ at hM
                exact gw rfl (g_alloc 92 (mc (zk) (0)) zeroM (fun w' t_ b_ => ⟨(wx.heap.size), rfl, fun i h1 h2 => by rcases i with _ | _ | _ | _ | _ | _ | _ | _ | _ | _ | _ | _ | _ | _ | _ | _ | _ | i <;> first | rfl | trivial | exact absurd rfl h2 | exact absurd h1 (by decide), hM.new t_ b_⟩))
              · obtain rfl := Option.some.inj hj_
                cases so ho_
                simp only [fullL, Act.put, st_a, st_s, st_0]
                change Ms _ _ _ at hM
                exact gw rfl (g_store_all 92 _ _ (π) (mc (zk) (0)) _ 92 rfl rfl (hM.get 0 rfl) (szM _ _) (mm2_len _ _ _ _) (one_mc _ _) (fun w' t_ b_ => ⟨(π), rfl, fun i h1 h2 => by rcases i with _ | _ | _ | _ | _ | _ | _ | _ | _ | _ | _ | _ | _ | _ | _ | _ | _ | i <;> first | rfl | trivial | exact absurd rfl h2 | exact absurd h1 (by decide), hM.put 0 rfl t_ b_⟩))
              · simp at hj_
            · intro i_ o_ ho_ hi_ j_ hd_ hh_ hj_ π wx hM
              simp only [fullL, Act.put, st_a, st_s, st_0]
              rcases i_ with _ | _ | _ | _ | _ | _ | _ | _ | _ | _ | _ | _ | _ | _ | _ | _ | _ | i_
              · cases so ho_
                exact gw rfl (g_move _ _ rfl ⟨rfl, hM⟩)
              · cases so ho_
                exact gw rfl (g_nil _ _ rfl ⟨rfl, hM⟩)
              · cases so ho_
                exact gw rfl (g_fa _ _ _ _ _ _ rfl (faRc1 _ _ _) ⟨rfl, hM⟩)
              · cases so ho_
                rcases j_ with _ | _ | _ | j_
                · change Ms _ _ _ at hM
                  exact gw rfl (g_load 92 _ (p) (4) 33 _ 95 _ rfl (hM.get 2 rfl) fieldsM rfl sizeMi (by rw [rcc_length]; decide) (mc (k) (n)) (rv_mind _ _ _ _ _ _ _) ⟨rfl, hM⟩)
                · change Ms _ _ _ at hM
                  exact gw rfl (g_load 92 _ (p) (4) 33 _ 95 _ rfl (hM.get 3 rfl) fieldsM rfl sizeMi (by rw [rcc_length]; decide) (mc (k) (n)) (rv_mind _ _ _ _ _ _ _) ⟨rfl, hM⟩)
                · exact absurd hh_ (by decide)
                · exact absurd hj_ (by simp)
              · cases so ho_
                rcases j_ with _ | _ | _ | j_
                · change Ms _ _ _ at hM
                  exact gw rfl (g_load_all 23 _ (w.heap.size) (kc (kk)) 23 _ rfl (hM.get 1 rfl) Tryz.underlying23 rfl (szK _) ⟨rfl, hM⟩)
                · change Ms _ _ _ at hM
                  exact gw rfl (g_load_all 23 _ (w.heap.size) (kc (kk)) 23 _ rfl (hM.get 2 rfl) Tryz.underlying23 rfl (szK _) ⟨rfl, hM⟩)
                · exact absurd hh_ (by decide)
                · exact absurd hj_ (by simp)
              · cases so ho_
                exact gw rfl (g_move _ _ rfl ⟨rfl, hM⟩)
              · cases so ho_
                exact gw rfl (g_move _ _ rfl ⟨rfl, hM⟩)
              · cases so ho_
                exact gw rfl (g_nil _ _ rfl ⟨rfl, hM⟩)
              · cases so ho_
                exact gw rfl (g_fa _ _ _ _ _ _ rfl (faRc2 _ _ _) ⟨rfl, hM⟩)
              · cases so ho_
                rcases j_ with _ | _ | _ | j_
                · change Ms _ _ _ at hM
                  exact gw rfl (g_ld1 3 _ (p) (37) _ rfl (ld3 _ _ _ _ ((hM.get 2 rfl).cell (37) _ (rv_37 _ _ _ _ _ _ _))) ⟨rfl, hM⟩)
                · change Ms _ _ _ at hM
                  exact gw rfl (g_ld1 3 _ (p) (37) _ rfl (ld3 _ _ _ _ ((hM.get 3 rfl).cell (37) _ (rv_37 _ _ _ _ _ _ _))) ⟨rfl, hM⟩)
                · exact absurd hh_ (by decide)
                · exact absurd hj_ (by simp)
              · cases so ho_
                rcases j_ with _ | _ | _ | j_
                · change Ms _ _ _ at hM
                  exact gw rfl (g_call 43 _ _ [.agg (mc (k) (n)).toArray, .agg (kc (kk)).toArray, .int .i64 (i), .int .i64 (mo)] (kf43 _ _) rfl ((learn_any k n kk i mo wx (hM.tabs hT) zk 0 13 (by omega) ⟨hln⟩).mono (fun _ _ ⟨h1_, h2_⟩ => ⟨_, h1_, rfl, hM.call h2_⟩)))
                · change Ms _ _ _ at hM
                  exact gw rfl (g_call 43 _ _ [.agg (mc (k) (n)).toArray, .agg (kc (kk)).toArray, .int .i64 (i), .int .i64 (mo)] (kf43 _ _) rfl ((learn_any k n kk i mo wx (hM.tabs hT) zk 0 13 (by omega) ⟨hln⟩).mono (fun _ _ ⟨h1_, h2_⟩ => ⟨_, h1_, rfl, hM.call h2_⟩)))
                · exact absurd hh_ (by decide)
                · exact absurd hj_ (by simp)
              · cases so ho_
                exact gw rfl (g_move _ _ rfl ⟨rfl, hM⟩)
              · cases so ho_
                exact gw rfl (g_extract _ _ _ _ rfl rfl ⟨rfl, hM⟩)
              · cases so ho_
                exact gw rfl (g_extract _ _ _ _ rfl rfl ⟨rfl, hM⟩)
              · exact absurd (by decide) hi_
              · exact absurd (by decide) hi_
              · cases so ho_
                exact gw rfl (g_assign _ _ rfl ⟨rfl, hM⟩)
              · simp at ho_
            · simp only [fullL, Act.put, st_a, st_s, st_0]
              rintro p38 w37 hM
              replace hM : Ms w0 w37 (blk (p38) (mc (zk) (0)) 92 :: blk (w17.heap.size) (kc (zk)) 23 :: blk (w.heap.size) (kc (kk)) 23 :: blk (p) (rcc (P) (k) (n) (mo) (.pointer (some ⟨q, 0, none⟩)) (.map (some m)) (wr)) 95 :: bf q x y (d) (L) :: bl m E (B) :: R) := hM
              refine κ21 _ _ (wp_seq_k fun _ κ39 => ?_)
              refine wp_seq_k fun _ κ40 => wl_region (wl_fare kn ?_)
              simp (disch := omega) only [fx, pv, kx]
              refine wl_nil (κ40 _ _ ?_)
              refine wp_cond_true rfl (wp_seq_k fun _ κ41 => ?_)
              refine wl_region (wl_fare kn ?_)
              simp (config := { maxSteps := 10000000 }) (disch := omega) only [fx, pv, kx]
              refine wl_nil (κ41 _ _ ?_)
              refine wp_ret ?_
              go_ret2
              exact ⟨_, _, rfl, row_nil ((((((hM.erase 0).erase 0).erase 0).up 2 rfl).up 2 rfl).up 2 rfl)⟩
end Go.Proofs.YtcclcemdodoiiaaGreatDoor
