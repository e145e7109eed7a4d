/- What (*Receiver).Got answers and does, and receiver.New; a receiver in memory as a part of its own. -/
import Derived.Test.YtcclcemdodoiiaaGreatDoorQRunG
import Derived.Test.YtcclcemdodoiiaaGreatDoorQRc3
import Derived.Test.YtcclcemdodoiiaaGreatDoorQRcL
import Derived.WalkKit
import Derived.WalkSpells
import Derived.WalkLawsBesides
namespace Go.Proofs.YtcclcemdodoiiaaGreatDoor
set_option maxRecDepth 10000
open Go Go.RowKit
set_option linter.unusedVariables false
set_option linter.unusedSimpArgs false

set_option maxHeartbeats 4000000 in
theorem got_0 {w0 w : World} {R : List HP} {p q m x : Nat} {P : Pl} {k : Ky} {n mo wr y d : Int} {L B : List Thg} {E : List (Int × Nat)} (i : Int) (tx g : ByteArray) (t : Int) (kk : Ky) (la : Int) (hM : Ms w0 w (blk (p) (rcc (P) (k) (n) (mo) (.pointer (some ⟨q, 0, none⟩)) (.map (some m)) (wr)) 95 :: bf q x y (d) (L) :: bl m E (B) :: R)) (hT : Tabs w0) (hP : P.ct ≤ 1024) (hx : 1 ≤ x ∧ x ≤ 64) (hL : L.length ≤ 1000) (hn : 0 ≤ n ∧ n ≤ 1024) (hmo : mo ≤ 64) (hd : 0 ≤ d ∧ d < 1000000) (hw : 0 ≤ wr ∧ wr ≤ 5000) (hsz : ∀ t ∈ L, 1 ≤ t.1 ∧ 16 ≤ t.2.size ∧ t.2.size ≤ 1016) (h1 : ¬ 0 < t) (T : List Thg) (E2 : Int) (S2 : Rc) (h : Shut (got (⟨P, k, n, mo, x, y, d, L, B, wr⟩ : Rc) ⟨i, tx, g, t, kk⟩ la = ((T, E2), S2))) : Calls Tryz.prog 15 #[.pointer (some ⟨p, 0, none⟩), .agg (pkc i tx g t kk).toArray, .int .i64 la] w fun e w' => ∃ (v : Value) (E' : List (Int × Nat)), e = .returned (.tuple #[v, .int .i64 E2]) ∧ Ms w0 w' (row 73 2 v ((T).length) (tcs (T)) :: blk (p) (rcc (P) (S2.k) (S2.n) (mo) (.pointer (some ⟨q, 0, none⟩)) (.map (some m)) (S2.wr)) 95 :: bf q x y (S2.d) (S2.L) :: bl m E' (S2.B) :: R) := by
  go_enter Tryz.func15, Tryz.ntmps15
  refine wp_seq_k fun _ κ1 => wl_region (wl_give rfl (g_box 39 _ (pkc (i) (tx) (g) (t) (kk)) rfl ?_))
  intro w2 t_ b_
  replace hM := hM.new t_ b_
  clear t_ b_
  refine wl_fare kn ?_
  simp (disch := omega) only [fx, pv, kx]
  refine wl_nil (κ1 _ _ ?_)
  refine wp_seq_k fun _ κ3 => wp_seq_k fun _ κ4 => ?_
  by_cases hf : Fmd P ⟨i, tx, g, t, kk⟩
  · have hf2 : (1 ≤ i ∧ i ≤ P.ct) ∧ g.size = 16 ∧ tx.size ≤ 1000 ∧ t = pte P i ∧ (0 < t ∨ kk.l = zk.l) := hf
    have hlp : lnp (⟨P, k, n, mo, x, y, d, L, B, wr⟩ : Rc) ⟨i, tx, g, t, kk⟩ = (([], 0), (⟨P, k, n, mo, x, y, d, L, B, wr⟩ : Rc)) := by unfold lnp; exact if_neg h1
    obtain ⟨⟨E3, S3⟩, hw3⟩ : ∃ r, wtg (⟨P, k, n, mo, x, y, d, L, B, wr⟩ : Rc) ⟨i, tx, g, t, kk⟩ la = r := ⟨_, rfl⟩
    obtain ⟨⟨rfl, rfl⟩, rfl⟩ : (([] : List Thg) = T ∧ E3 = E2) ∧ S3 = S2 := by have h := h.out; unfold got at h; rw [if_neg (fun hn => hn hf), hlp] at h; rw [if_neg (fun hn => hn rfl), hw3] at h; cases h; exact ⟨⟨rfl, rfl⟩, rfl⟩
    refine wl_region (wl_fare kn ?_)
    simp (disch := omega) only [fx, pv, kx]
    refine wl_give rfl (g_load_all 39 _ (w.heap.size) (pkc (i) (tx) (g) (t) (kk)) 39 _ rfl (hM.get 0 rfl) Tryz.underlying39 rfl (szPk _ _ _ _ _) ?_)
    try simp only [nz]
    refine wl_give rfl (g_call 36 _ _ [.pointer (some ⟨p, 0, none⟩), .agg (pkc (i) (tx) (g) (t) (kk)).toArray] (kf36 _ _) rfl ((formed_any i tx g t kk (show Ms w0 w2 (blk (p) (rcc (P) (k) (n) (mo) (.pointer (some ⟨q, 0, none⟩)) (.map (some m)) (wr)) 95 :: blk (w.heap.size) (pkc (i) (tx) (g) (t) (kk)) 39 :: bf q x y (d) (L) :: bl m E (B) :: R) from (hM.up 1 rfl)) true ⟨decide_eq_true hf⟩).mono ?_))
    rintro e w5 ⟨rfl, h_⟩
    refine ⟨_, rfl, ?_⟩
    replace hM : Ms w0 w5 (blk (p) (rcc (P) (k) (n) (mo) (.pointer (some ⟨q, 0, none⟩)) (.map (some m)) (wr)) 95 :: blk (w.heap.size) (pkc (i) (tx) (g) (t) (kk)) 39 :: bf q x y (d) (L) :: bl m E (B) :: R) := h_
    clear h_
    refine wl_fare kn ?_
    simp (disch := omega) only [fx, pv, kx]
    refine wl_nil (κ4 _ _ ?_)
    refine wp_cond_false rfl (wp_skip ?_)
    refine κ3 _ _ (wp_seq_k fun _ κ6 => ?_)
    refine wl_region (wl_fare kn ?_)
    simp (disch := omega) only [fx, pv, kx]
    refine wl_nil (κ6 _ _ ?_)
    refine wp_seq_k fun _ κ7 => wp_seq_k fun _ κ8 => wl_region (wl_fare kn ?_)
    simp (disch := omega) only [fx, pv, kx, (hM.get 1 rfl).cell 3 (.int .i64 (t)) rfl]
    refine wl_nil (κ8 _ _ ?_)
    refine wp_cond_false rfl (wp_skip ?_)
    refine κ7 _ _ (wp_seq_k fun _ κ9 => ?_)
    refine wl_region (wl_fare kn ?_)
    simp (disch := omega) only [fx, pv, kx]
    refine wl_give rfl (g_load_all 39 _ (w.heap.size) (pkc (i) (tx) (g) (t) (kk)) 39 _ rfl (hM.get 1 rfl) Tryz.underlying39 rfl (szPk _ _ _ _ _) ?_)
    refine wl_fare kn ?_
    simp (disch := omega) only [fx, pv, kx]
    refine wl_give rfl (g_call 37 _ _ [.pointer (some ⟨p, 0, none⟩), .agg (pkc (i) (tx) (g) (t) (kk)).toArray, .int .i64 (la)] (kf37 _ _) rfl ((wait_any i tx g t kk la (show Ms w0 w5 (blk (p) (rcc (P) (k) (n) (mo) (.pointer (some ⟨q, 0, none⟩)) (.map (some m)) (wr)) 95 :: bf q x y (d) (L) :: bl m E (B) :: blk (w.heap.size) (pkc (i) (tx) (g) (t) (kk)) 39 :: R) from (((hM.up 3 rfl).up 3 rfl).up 2 rfl)) hx (by omega) hd (by omega) (by omega) E3 S3 ⟨hw3⟩).mono ?_))
    rintro e w10 ⟨rfl, h_⟩
    refine ⟨_, rfl, ?_⟩
    replace hM : Ms w0 w10 (blk (p) (rcc (P) (k) (n) (mo) (.pointer (some ⟨q, 0, none⟩)) (.map (some m)) (wr)) 95 :: bf q x y (S3.d) (S3.L) :: bl m E (B) :: blk (w.heap.size) (pkc (i) (tx) (g) (t) (kk)) 39 :: R) := h_
    clear h_
    refine wl_fare kn ?_
    simp (disch := omega) only [fx, pv, kx]
    refine wl_nil (κ9 _ _ ?_)
    refine wp_ret ?_
    have hws := wtg_same (⟨P, k, n, mo, x, y, d, L, B, wr⟩ : Rc) ⟨i, tx, g, t, kk⟩ la
    rw [hw3] at hws
    have q1 : S3.k = k := by have z_ := congrArg Rc.k hws; exact z_
    have q2 : S3.n = n := by have z_ := congrArg Rc.n hws; exact z_
    have q3 : S3.wr = wr := by have z_ := congrArg Rc.wr hws; exact z_
    have q4 : S3.B = B := by have z_ := congrArg Rc.B hws; exact z_
    go_ret2
    refine ⟨_, E, rfl, ?_⟩
    rw [q1, q2, q3, q4]
    exact row_nil ((((hM.erase 3).up 2 rfl).up 2 rfl).up 2 rfl)
  · obtain ⟨⟨rfl, rfl⟩, rfl⟩ : (([] : List Thg) = T ∧ (2 : Int) = E2) ∧ (⟨P, k, n, mo, x, y, d, L, B, wr⟩ : Rc) = S2 := by have h := h.out; unfold got at h; rw [if_pos hf] at h; cases h; exact ⟨⟨rfl, rfl⟩, rfl⟩
    refine wl_region (wl_fare kn ?_)
    simp (disch := omega) only [fx, pv, kx]
    refine wl_give rfl (g_load_all 39 _ (w.heap.size) (pkc (i) (tx) (g) (t) (kk)) 39 _ rfl (hM.get 0 rfl) Tryz.underlying39 rfl (szPk _ _ _ _ _) ?_)
    try simp only [nz]
    refine wl_give rfl (g_call 36 _ _ [.pointer (some ⟨p, 0, none⟩), .agg (pkc (i) (tx) (g) (t) (kk)).toArray] (kf36 _ _) rfl ((formed_any i tx g t kk (show Ms w0 w2 (blk (p) (rcc (P) (k) (n) (mo) (.pointer (some ⟨q, 0, none⟩)) (.map (some m)) (wr)) 95 :: blk (w.heap.size) (pkc (i) (tx) (g) (t) (kk)) 39 :: bf q x y (d) (L) :: bl m E (B) :: R) from (hM.up 1 rfl)) false ⟨decide_eq_false hf⟩).mono ?_))
    rintro e w11 ⟨rfl, h_⟩
    refine ⟨_, rfl, ?_⟩
    replace hM : Ms w0 w11 (blk (p) (rcc (P) (k) (n) (mo) (.pointer (some ⟨q, 0, none⟩)) (.map (some m)) (wr)) 95 :: blk (w.heap.size) (pkc (i) (tx) (g) (t) (kk)) 39 :: bf q x y (d) (L) :: bl m E (B) :: R) := h_
    clear h_
    refine wl_fare kn ?_
    simp (disch := omega) only [fx, pv, kx]
    refine wl_nil (κ4 _ _ ?_)
    refine wp_cond_true rfl (wp_seq_k fun _ κ12 => ?_)
    refine wl_region (wl_fare kn ?_)
    simp (disch := omega) only [fx, pv, kx]
    refine wl_nil (κ12 _ _ ?_)
    refine wp_ret ?_
    go_ret2
    exact ⟨_, _, rfl, row_nil ((((hM.erase 1).up 2 rfl).up 2 rfl).up 2 rfl)⟩
set_option maxHeartbeats 4000000 in
theorem got_1 {w0 w : World} {R : List HP} {p q m x : Nat} {P : Pl} {k : Ky} {n mo wr y d : Int} {L B : List Thg} {E : List (Int × Nat)} (i : Int) (tx g : ByteArray) (t : Int) (kk : Ky) (la : Int) (hM : Ms w0 w (blk (p) (rcc (P) (k) (n) (mo) (.pointer (some ⟨q, 0, none⟩)) (.map (some m)) (wr)) 95 :: bf q x y (d) (L) :: bl m E (B) :: R)) (hT : Tabs w0) (hP : P.ct ≤ 1024) (hx : 1 ≤ x ∧ x ≤ 64) (hL : L.length ≤ 1000) (hn : 0 ≤ n ∧ n ≤ 1024) (hmo : mo ≤ 64) (hd : 0 ≤ d ∧ d < 1000000) (hw : 0 ≤ wr ∧ wr ≤ 5000) (hsz : ∀ t ∈ L, 1 ≤ t.1 ∧ 16 ≤ t.2.size ∧ t.2.size ≤ 1016) (h1 : 0 < t) (T : List Thg) (E2 : Int) (S2 : Rc) (h : Shut (got (⟨P, k, n, mo, x, y, d, L, B, wr⟩ : Rc) ⟨i, tx, g, t, kk⟩ la = ((T, E2), S2))) : Calls Tryz.prog 15 #[.pointer (some ⟨p, 0, none⟩), .agg (pkc i tx g t kk).toArray, .int .i64 la] w fun e w' => ∃ (v : Value) (E' : List (Int × Nat)), e = .returned (.tuple #[v, .int .i64 E2]) ∧ Ms w0 w' (row 73 2 v ((T).length) (tcs (T)) :: blk (p) (rcc (P) (S2.k) (S2.n) (mo) (.pointer (some ⟨q, 0, none⟩)) (.map (some m)) (S2.wr)) 95 :: bf q x y (S2.d) (S2.L) :: bl m E' (S2.B) :: R) := by
  go_enter Tryz.func15, Tryz.ntmps15
  refine wp_seq_k fun _ κ1 => wl_region (wl_give rfl (g_box 39 _ (pkc (i) (tx) (g) (t) (kk)) rfl ?_))
  intro w2 t_ b_
  replace hM := hM.new t_ b_
  clear t_ b_
  refine wl_fare kn ?_
  simp (disch := omega) only [fx, pv, kx]
  refine wl_nil (κ1 _ _ ?_)
  refine wp_seq_k fun _ κ3 => wp_seq_k fun _ κ4 => ?_
  by_cases hf : Fmd P ⟨i, tx, g, t, kk⟩
  · have hf2 : (1 ≤ i ∧ i ≤ P.ct) ∧ g.size = 16 ∧ tx.size ≤ 1000 ∧ t = pte P i ∧ (0 < t ∨ kk.l = zk.l) := hf
    obtain ⟨⟨⟨T1, e1⟩, S1⟩, hl⟩ : ∃ r, lea (⟨P, k, n, mo, x, y, d, L, B, wr⟩ : Rc) kk t = r := ⟨_, rfl⟩
    have hlp : lnp (⟨P, k, n, mo, x, y, d, L, B, wr⟩ : Rc) ⟨i, tx, g, t, kk⟩ = ((T1, e1), S1) := by unfold lnp; rw [if_pos h1, hl]
    have hsm := lea_same (⟨P, k, n, mo, x, y, d, L, B, wr⟩ : Rc) kk t
    rw [hl] at hsm
    have hd1 : S1.d = d := congrArg Rc.d hsm
    have hsm2 : S1 = (⟨P, S1.k, S1.n, mo, x, y, S1.d, S1.L, S1.B, S1.wr⟩ : Rc) := by rw [hd1]; exact hsm
    refine wl_region (wl_fare kn ?_)
    simp (disch := omega) only [fx, pv, kx]
    refine wl_give rfl (g_load_all 39 _ (w.heap.size) (pkc (i) (tx) (g) (t) (kk)) 39 _ rfl (hM.get 0 rfl) Tryz.underlying39 rfl (szPk _ _ _ _ _) ?_)
    try simp only [nz]
    refine wl_give rfl (g_call 36 _ _ [.pointer (some ⟨p, 0, none⟩), .agg (pkc (i) (tx) (g) (t) (kk)).toArray] (kf36 _ _) rfl ((formed_any i tx g t kk (show Ms w0 w2 (blk (p) (rcc (P) (k) (n) (mo) (.pointer (some ⟨q, 0, none⟩)) (.map (some m)) (wr)) 95 :: blk (w.heap.size) (pkc (i) (tx) (g) (t) (kk)) 39 :: bf q x y (d) (L) :: bl m E (B) :: R) from (hM.up 1 rfl)) true ⟨decide_eq_true hf⟩).mono ?_))
    rintro e w5 ⟨rfl, h_⟩
    refine ⟨_, rfl, ?_⟩
    replace hM : Ms w0 w5 (blk (p) (rcc (P) (k) (n) (mo) (.pointer (some ⟨q, 0, none⟩)) (.map (some m)) (wr)) 95 :: blk (w.heap.size) (pkc (i) (tx) (g) (t) (kk)) 39 :: bf q x y (d) (L) :: bl m E (B) :: R) := h_
    clear h_
    refine wl_fare kn ?_
    simp (disch := omega) only [fx, pv, kx]
    refine wl_nil (κ4 _ _ ?_)
    refine wp_cond_false rfl (wp_skip ?_)
    refine κ3 _ _ (wp_seq_k fun _ κ6 => ?_)
    refine wl_region (wl_fare kn ?_)
    simp (disch := omega) only [fx, pv, kx]
    refine wl_nil (κ6 _ _ ?_)
    refine wp_seq_k fun _ κ7 => wp_seq_k fun _ κ8 => wl_region (wl_fare kn ?_)
    simp (disch := omega) only [fx, pv, kx, (hM.get 1 rfl).cell 3 (.int .i64 (t)) rfl]
    refine wl_nil (κ8 _ _ ?_)
    refine wp_cond_true rfl (wp_seq_k fun _ κ9 => ?_)
    refine wl_region (wl_fare kn ?_)
    simp (disch := omega) only [fx, pv, kx]
    refine wl_nil (κ9 _ _ ?_)
    refine wp_seq_k fun _ κ10 => wl_region (wl_fare kn ?_)
    simp (disch := omega) only [fx, pv, kx]
    refine wl_give rfl (g_load 23 _ (w.heap.size) (4) 32 _ 39 _ rfl (hM.get 1 rfl) Tryz.underlying23 rfl size23 (by rw [pkc_length]; decide) (kc (kk)) (pk_key (kk) (i) (tx) (g) (t)) ?_)
    refine wl_fare kn ?_
    simp (disch := omega) only [fx, pv, kx, (hM.get 1 rfl).cell 3 (.int .i64 (t)) rfl]
    refine wl_give rfl (g_call 18 _ _ [.pointer (some ⟨p, 0, none⟩), .agg (kc (kk)).toArray, .int .i64 (t)] (kf18 _ _) rfl ((learns_a kk t (show Ms w0 w5 (blk (p) (rcc (P) (k) (n) (mo) (.pointer (some ⟨q, 0, none⟩)) (.map (some m)) (wr)) 95 :: bf q x y (d) (L) :: bl m E (B) :: blk (w.heap.size) (pkc (i) (tx) (g) (t) (kk)) 39 :: R) from (((hM.up 3 rfl).up 3 rfl).up 2 rfl)) hT hP hL hn hmo hw hsz T1 e1 S1 ⟨hl⟩).mono ?_))
    rintro e w11 ⟨v12, F13, rfl, h_⟩
    refine ⟨_, rfl, ?_⟩
    replace hM : Ms w0 w11 (row 73 2 v12 ((T1).length) (tcs (T1)) :: blk (p) (rcc (P) (S1.k) (S1.n) (mo) (.pointer (some ⟨q, 0, none⟩)) (.map (some m)) (S1.wr)) 95 :: bf q x y (S1.d) (S1.L) :: bl m F13 (S1.B) :: blk (w.heap.size) (pkc (i) (tx) (g) (t) (kk)) 39 :: R) := h_
    clear h_
    refine wl_fare kn ?_
    simp (config := { maxSteps := 10000000 }) (disch := omega) only [fx, pv, kx]
    refine wl_nil (κ10 _ _ ?_)
    refine wp_seq_k fun _ κ14 => ?_
    by_cases h2 : e1 ≠ 0
    · obtain ⟨⟨rfl, rfl⟩, rfl⟩ : (([] : List Thg) = T ∧ e1 = E2) ∧ (⟨P, k, n, mo, x, y, d, L, B, wr⟩ : Rc) = S2 := by have h := h.out; unfold got at h; rw [if_neg (fun hn => hn hf), hlp] at h; rw [if_pos h2] at h; cases h; exact ⟨⟨rfl, rfl⟩, rfl⟩
      have hS1 : S1 = (⟨P, k, n, mo, x, y, d, L, B, wr⟩ : Rc) := lea_err hl h2
      replace hM : Ms w0 w11 (row 73 2 v12 ((T1).length) (tcs (T1)) :: blk (p) (rcc (P) (k) (n) (mo) (.pointer (some ⟨q, 0, none⟩)) (.map (some m)) (wr)) 95 :: bf q x y (d) (L) :: bl m F13 (B) :: blk (w.heap.size) (pkc (i) (tx) (g) (t) (kk)) 39 :: R) := by rw [hS1] at hM; exact hM
      refine wl_region (wl_fare kn ?_)
      simp (disch := omega) only [fx, pv, kx]
      refine wl_nil (κ14 _ _ ?_)
      refine wp_cond_true rfl (wp_seq_k fun _ κ15 => ?_)
      refine wl_region (wl_fare kn ?_)
      simp (disch := omega) only [fx, pv, kx]
      refine wl_nil (κ15 _ _ ?_)
      refine wp_ret ?_
      go_ret2
      exact ⟨_, _, rfl, row_nil (((((hM.erase 0).erase 3).up 2 rfl).up 2 rfl).up 2 rfl)⟩
    · obtain ⟨⟨E3, S3⟩, hw3⟩ : ∃ r, wtg (⟨P, S1.k, S1.n, mo, x, y, S1.d, S1.L, S1.B, S1.wr⟩ : Rc) ⟨i, tx, g, t, kk⟩ la = r := ⟨_, rfl⟩
      obtain ⟨⟨rfl, rfl⟩, rfl⟩ : (T1 = T ∧ E3 = E2) ∧ S3 = S2 := by have h := h.out; unfold got at h; rw [if_neg (fun hn => hn hf), hlp] at h; rw [if_neg h2, hsm2, hw3] at h; cases h; exact ⟨⟨rfl, rfl⟩, rfl⟩
      refine wl_region (wl_fare kn ?_)
      simp (disch := omega) only [fx, pv, kx]
      refine wl_nil (κ14 _ _ ?_)
      refine wp_cond_false rfl (wp_skip ?_)
      refine κ7 _ _ (wp_seq_k fun _ κ16 => ?_)
      refine wl_region (wl_fare kn ?_)
      simp (disch := omega) only [fx, pv, kx]
      refine wl_give rfl (g_load_all 39 _ (w.heap.size) (pkc (i) (tx) (g) (t) (kk)) 39 _ rfl (hM.get 4 rfl) Tryz.underlying39 rfl (szPk _ _ _ _ _) ?_)
      refine wl_fare kn ?_
      simp (disch := omega) only [fx, pv, kx]
      refine wl_give rfl (g_call 37 _ _ [.pointer (some ⟨p, 0, none⟩), .agg (pkc (i) (tx) (g) (t) (kk)).toArray, .int .i64 (la)] (kf37 _ _) rfl ((wait_any i tx g t kk la (show Ms w0 w11 (blk (p) (rcc (P) (S1.k) (S1.n) (mo) (.pointer (some ⟨q, 0, none⟩)) (.map (some m)) (S1.wr)) 95 :: bf q x y (S1.d) (S1.L) :: bl m F13 (S1.B) :: row 73 2 v12 ((T1).length) (tcs (T1)) :: blk (w.heap.size) (pkc (i) (tx) (g) (t) (kk)) 39 :: R) from (((hM.up 3 rfl).up 3 rfl).up 3 rfl)) hx (by omega) (by rw [hd1]; exact hd) (by omega) (by omega) E3 S3 ⟨hw3⟩).mono ?_))
      rintro e w17 ⟨rfl, h_⟩
      refine ⟨_, rfl, ?_⟩
      replace hM : Ms w0 w17 (blk (p) (rcc (P) (S1.k) (S1.n) (mo) (.pointer (some ⟨q, 0, none⟩)) (.map (some m)) (S1.wr)) 95 :: bf q x y (S3.d) (S3.L) :: bl m F13 (S1.B) :: row 73 2 v12 ((T1).length) (tcs (T1)) :: blk (w.heap.size) (pkc (i) (tx) (g) (t) (kk)) 39 :: R) := h_
      clear h_
      refine wl_fare kn ?_
      simp (disch := omega) only [fx, pv, kx]
      refine wl_nil (κ16 _ _ ?_)
      refine wp_ret ?_
      have hws := wtg_same (⟨P, S1.k, S1.n, mo, x, y, S1.d, S1.L, S1.B, S1.wr⟩ : Rc) ⟨i, tx, g, t, kk⟩ la
      rw [hw3] at hws
      have q1 : S3.k = S1.k := by have z_ := congrArg Rc.k hws; exact z_
      have q2 : S3.n = S1.n := by have z_ := congrArg Rc.n hws; exact z_
      have q3 : S3.wr = S1.wr := by have z_ := congrArg Rc.wr hws; exact z_
      have q4 : S3.B = S1.B := by have z_ := congrArg Rc.B hws; exact z_
      go_ret2
      refine ⟨_, F13, rfl, ?_⟩
      rw [q1, q2, q3, q4]
      exact (((((hM.erase 4).up 2 rfl).up 2 rfl).up 2 rfl).up 3 rfl)
  · obtain ⟨⟨rfl, rfl⟩, rfl⟩ : (([] : List Thg) = T ∧ (2 : Int) = E2) ∧ (⟨P, k, n, mo, x, y, d, L, B, wr⟩ : Rc) = S2 := by have h := h.out; unfold got at h; rw [if_pos hf] at h; cases h; exact ⟨⟨rfl, rfl⟩, rfl⟩
    refine wl_region (wl_fare kn ?_)
    simp (disch := omega) only [fx, pv, kx]
    refine wl_give rfl (g_load_all 39 _ (w.heap.size) (pkc (i) (tx) (g) (t) (kk)) 39 _ rfl (hM.get 0 rfl) Tryz.underlying39 rfl (szPk _ _ _ _ _) ?_)
    try simp only [nz]
    refine wl_give rfl (g_call 36 _ _ [.pointer (some ⟨p, 0, none⟩), .agg (pkc (i) (tx) (g) (t) (kk)).toArray] (kf36 _ _) rfl ((formed_any i tx g t kk (show Ms w0 w2 (blk (p) (rcc (P) (k) (n) (mo) (.pointer (some ⟨q, 0, none⟩)) (.map (some m)) (wr)) 95 :: blk (w.heap.size) (pkc (i) (tx) (g) (t) (kk)) 39 :: bf q x y (d) (L) :: bl m E (B) :: R) from (hM.up 1 rfl)) false ⟨decide_eq_false hf⟩).mono ?_))
    rintro e w18 ⟨rfl, h_⟩
    refine ⟨_, rfl, ?_⟩
    replace hM : Ms w0 w18 (blk (p) (rcc (P) (k) (n) (mo) (.pointer (some ⟨q, 0, none⟩)) (.map (some m)) (wr)) 95 :: blk (w.heap.size) (pkc (i) (tx) (g) (t) (kk)) 39 :: bf q x y (d) (L) :: bl m E (B) :: R) := h_
    clear h_
    refine wl_fare kn ?_
    simp (disch := omega) only [fx, pv, kx]
    refine wl_nil (κ4 _ _ ?_)
    refine wp_cond_true rfl (wp_seq_k fun _ κ19 => ?_)
    refine wl_region (wl_fare kn ?_)
    simp (disch := omega) only [fx, pv, kx]
    refine wl_nil (κ19 _ _ ?_)
    refine wp_ret ?_
    go_ret2
    exact ⟨_, _, rfl, row_nil ((((hM.erase 1).up 2 rfl).up 2 rfl).up 2 rfl)⟩
end Go.Proofs.YtcclcemdodoiiaaGreatDoor
