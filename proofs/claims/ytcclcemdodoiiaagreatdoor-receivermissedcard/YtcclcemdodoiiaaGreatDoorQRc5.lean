/- What receiver.New answers; a receiver in memory as one part, and what its methods answer and do. -/
import Derived.Test.YtcclcemdodoiiaaGreatDoorQRunG
import Derived.Test.YtcclcemdodoiiaaGreatDoorQRc4
import Derived.WalkKit
import Derived.WalkSpells
import Derived.WalkLawsBesides
namespace Go.Proofs.YtcclcemdodoiiaaGreatDoor
set_option maxRecDepth 10000
open Go Go.RowKit
set_option linter.unusedVariables false
set_option linter.unusedSimpArgs false

theorem got_same (S : Rc) (q : Pk) (t : Int) : (got S q t).2 = ⟨S.P, (got S q t).2.k, (got S q t).2.n, S.mo, S.x, S.y, (got S q t).2.d, (got S q t).2.L, (got S q t).2.B, (got S q t).2.wr⟩ := by
  have hl : (lnp S q).2 = ⟨S.P, (lnp S q).2.k, (lnp S q).2.n, S.mo, S.x, S.y, S.d, (lnp S q).2.L, (lnp S q).2.B, (lnp S q).2.wr⟩ := by
    unfold lnp
    split
    · exact lea_same S q.k q.t
    · rfl
  unfold got
  split
  · rfl
  · split
    · rfl
    · dsimp only
      have hw := wtg_same (lnp S q).2 q t
      have e1 : (lnp S q).2.P = S.P := by have z_ := congrArg Rc.P hl; exact z_
      have e2 : (lnp S q).2.mo = S.mo := by have z_ := congrArg Rc.mo hl; exact z_
      have e3 : (lnp S q).2.x = S.x := by have z_ := congrArg Rc.x hl; exact z_
      have e4 : (lnp S q).2.y = S.y := by have z_ := congrArg Rc.y hl; exact z_
      have f1 : (wtg (lnp S q).2 q t).2.P = S.P := by have z_ := congrArg Rc.P hw; exact z_.trans e1
      have f2 : (wtg (lnp S q).2 q t).2.mo = S.mo := by have z_ := congrArg Rc.mo hw; exact z_.trans e2
      have f3 : (wtg (lnp S q).2 q t).2.x = S.x := by have z_ := congrArg Rc.x hw; exact z_.trans e3
      have f4 : (wtg (lnp S q).2 q t).2.y = S.y := by have z_ := congrArg Rc.y hw; exact z_.trans e4
      rw [← f1, ← f2, ← f3, ← f4]
/-- A receiver at p. -/
def rv (p : Nat) (S : Rc) : HP := ex fun z : Nat × Nat × List (Int × Nat) => [blk p (rcc S.P S.k S.n S.mo (.pointer (some ⟨z.1, 0, none⟩)) (.map (some z.2.1)) S.wr) 95, bf z.1 S.x S.y S.d S.L, bl z.2.1 z.2.2 S.B]
/-- Its numbers are such as receivers have, so far. -/
structure Sml (c : Nat) (S : Rc) : Prop where
  l : S.L.length + S.B.length ≤ c
  w : 0 ≤ S.wr
  wl : S.wr + S.L.length ≤ c
  d : 0 ≤ S.d ∧ S.d ≤ c
section
variable {w0 w : World} {R : List HP} {p q m : Nat} {S : Rc} {E : List (Int × Nat)}
theorem rv_open (h : Ms w0 w (rv p S :: R)) : ∃ q m E, Ms w0 w (blk p (rcc S.P S.k S.n S.mo (.pointer (some ⟨q, 0, none⟩)) (.map (some m)) S.wr) 95 :: bf q S.x S.y S.d S.L :: bl m E S.B :: R) := by
  obtain ⟨⟨q, m, E⟩, h⟩ := h.opn
  exact ⟨q, m, E, h⟩
theorem rv_mk (h : Ms w0 w (blk p (rcc S.P S.k S.n S.mo (.pointer (some ⟨q, 0, none⟩)) (.map (some m)) S.wr) 95 :: bf q S.x S.y S.d S.L :: bl m E S.B :: R)) : Ms w0 w (rv p S :: R) := Ms.shut (q, m, E) h
theorem rv_told {v : Value} {T : List Thg} (h : Ms w0 w (row 73 2 v T.length (tcs T) :: blk p (rcc S.P S.k S.n S.mo (.pointer (some ⟨q, 0, none⟩)) (.map (some m)) S.wr) 95 :: bf q S.x S.y S.d S.L :: bl m E S.B :: R)) : Ms w0 w (row 73 2 v T.length (tcs T) :: rv p S :: R) := (rv_mk (((h.up 3 rfl).up 3 rfl).up 3 rfl)).up 1 rfl
theorem tld {f : FuncId} {args : Array Value} {T : List Thg} {e2 : Int} {A : World → Prop} {M : List HP} (h : Calls Tryz.prog f args w (fun e w' => ∃ v, e = .returned (.tuple #[v, .int .i64 e2]) ∧ Ms w0 w' (row 73 2 v T.length (tcs T) :: M))) :
    Calls Tryz.prog f args w (fun e w' => ∃ (o : Option Addr) (k : Nat), e = .returned (.tuple #[.slice o T.length k, .int .i64 e2]) ∧ Ms w0 w' (row 73 2 (.slice o T.length k) T.length (tcs T) :: M)) :=
  h.mono fun e w' ⟨v, h1, h2⟩ => by
    obtain ⟨o, k, rfl, _⟩ := row_slice h2
    exact ⟨o, k, h1, h2⟩
theorem got_v (hM : Ms w0 w (rv p S :: R)) (hT : Tabs w0) (hS : RcOk S) (hc : Sml 1000 S) (q : Pk) (la : Int) (T : List Thg) (E2 : Int) (S2 : Rc) (h : got S q la = ((T, E2), S2)) : Calls Tryz.prog 15 #[.pointer (some ⟨p, 0, none⟩), .agg (pkc q.i q.x q.g q.t q.k).toArray, .int .i64 la] w fun e w' => ∃ (o : Option Addr) (k : Nat), e = .returned (.tuple #[.slice o T.length k, .int .i64 E2]) ∧ Ms w0 w' (row 73 2 (.slice o T.length k) T.length (tcs T) :: rv p S2 :: R) := by
  obtain ⟨r, m, E, hM⟩ := rv_open hM
  have hP := hS.P
  have h2 : S2 = ⟨S.P, S2.k, S2.n, S.mo, S.x, S.y, S2.d, S2.L, S2.B, S2.wr⟩ := by
    have := got_same S q la
    rw [h] at this; exact this
  obtain ⟨P, k, n, mo, x, y, d, L, B, wr⟩ := S
  obtain ⟨i, tx, g, t, kk⟩ := q
  have c1 := hc.l; have c2 := hc.w; have c3 := hc.wl; have c4 := hc.d
  have a1 := hS.n0; have a2 := hS.n1; have a3 := hS.mo; have a4 := hS.x; have a5 := hS.l
  dsimp only at hP c1 c2 c3 c4 a1 a2 a3 a4 a5 hM h2
  rw [h2]
  refine tld (A := fun _ => True) ?_
  by_cases h1 : 0 < t
  · refine (got_1 i tx g t kk la hM hT (by omega) a4 (by omega) ⟨by omega, by omega⟩ (by omega) ⟨by omega, by omega⟩ ⟨c2, by omega⟩ (fun t ht => ⟨(a5 t ht).1, (a5 t ht).2.2⟩) h1 T E2 S2 ⟨h⟩).mono ?_
    rintro e w' ⟨v, E', h3, h4⟩
    exact ⟨v, h3, rv_told (S := ⟨P, S2.k, S2.n, mo, x, y, S2.d, S2.L, S2.B, S2.wr⟩) h4⟩
  · refine (got_0 i tx g t kk la hM hT (by omega) a4 (by omega) ⟨by omega, by omega⟩ (by omega) ⟨by omega, by omega⟩ ⟨c2, by omega⟩ (fun t ht => ⟨(a5 t ht).1, (a5 t ht).2.2⟩) h1 T E2 S2 ⟨h⟩).mono ?_
    rintro e w' ⟨v, E', h3, h4⟩
    exact ⟨v, h3, rv_told (S := ⟨P, S2.k, S2.n, mo, x, y, S2.d, S2.L, S2.B, S2.wr⟩) h4⟩
theorem learn_v (hM : Ms w0 w (rv p S :: R)) (hT : Tabs w0) (hS : RcOk S) (hc : Sml 1000 S) (kk : Ky) (i : Int) (T : List Thg) (E2 : Int) (S2 : Rc) (h : lea S kk i = ((T, E2), S2)) : Calls Tryz.prog 18 #[.pointer (some ⟨p, 0, none⟩), .agg (kc kk).toArray, .int .i64 i] w fun e w' => ∃ (o : Option Addr) (k : Nat), e = .returned (.tuple #[.slice o T.length k, .int .i64 E2]) ∧ Ms w0 w' (row 73 2 (.slice o T.length k) T.length (tcs T) :: rv p S2 :: R) := by
  obtain ⟨r, m, E, hM⟩ := rv_open hM
  have hP := hS.P
  have h2 : S2 = ⟨S.P, S2.k, S2.n, S.mo, S.x, S.y, S.d, S2.L, S2.B, S2.wr⟩ := by
    have := lea_same S kk i
    rw [h] at this; exact this
  obtain ⟨P, k, n, mo, x, y, d, L, B, wr⟩ := S
  have c1 := hc.l; have c2 := hc.w; have c3 := hc.wl
  have a1 := hS.n0; have a2 := hS.n1; have a3 := hS.mo; have a5 := hS.l
  dsimp only at hP c1 c2 c3 a1 a2 a3 a5 hM h2
  have h5 : S2.d = d := by have z_ := congrArg Rc.d h2; exact z_
  rw [h2]
  refine tld (A := fun _ => True) ?_
  refine (learns_a kk i hM hT (by omega) (by omega) ⟨by omega, by omega⟩ (by omega) ⟨c2, by omega⟩ (fun t ht => ⟨(a5 t ht).1, (a5 t ht).2.2⟩) T E2 S2 ⟨h⟩).mono ?_
  rintro e w' ⟨v, E', h3, h4⟩
  rw [h5] at h4
  exact ⟨v, h3, rv_told (S := ⟨P, S2.k, S2.n, mo, x, y, d, S2.L, S2.B, S2.wr⟩) h4⟩
theorem at_v (hM : Ms w0 w (rv p S :: R)) : Calls Tryz.prog 21 #[.pointer (some ⟨p, 0, none⟩)] w fun e w' => e = .returned (.int .i64 S.n) ∧ Ms w0 w' (rv p S :: R) := by
  obtain ⟨q, m, E, hM⟩ := rv_open hM
  exact (rat_any hM).mono fun e w' ⟨h1, h2⟩ => ⟨h1, rv_mk h2⟩
theorem waits_v (hM : Ms w0 w (rv p S :: R)) (hL : S.L.length ≤ 1000000) : Calls Tryz.prog 22 #[.pointer (some ⟨p, 0, none⟩)] w fun e w' => e = .returned (.int .i64 ((S.L.length : Nat) : Int)) ∧ Ms w0 w' (rv p S :: R) := by
  obtain ⟨q, m, E, hM⟩ := rv_open hM
  exact (waits_any hM hL).mono fun e w' ⟨h1, h2⟩ => ⟨h1, rv_mk h2⟩
theorem believed_v (hM : Ms w0 w (rv p S :: R)) (i : Int) : Calls Tryz.prog 23 #[.pointer (some ⟨p, 0, none⟩), .int .i64 i] w fun e w' => e = .returned (.int .i64 (((ofI i S.B).length : Nat) : Int)) ∧ Ms w0 w' (rv p S :: R) := by
  obtain ⟨q, m, E, hM⟩ := rv_open hM
  exact (believed_any i hM).mono fun e w' ⟨h1, h2⟩ => ⟨h1, rv_mk h2⟩
end
set_option maxHeartbeats 4000000 in
theorem rcnew_bad (k : Ky) (P : Pl) (mo x y : Int) (w : World) (h : ¬ (POk P ∧ 1 ≤ mo ∧ mo ≤ 64 ∧ 1 ≤ x ∧ x ≤ 64 ∧ 1 ≤ y ∧ y ≤ 64)) : Calls Tryz.prog 12 #[.agg (kc k).toArray, .agg (plc P).toArray, .int .i64 mo, .int .i64 x, .int .i64 y] w fun e w' => e = .returned (.tuple #[.pointer none, .int .i64 1]) ∧ Below w.heap.size w w' := by
  have hM := Ms.refl w
  go_enter Tryz.func12, Tryz.ntmps12
  refine wp_seq_k fun _ κ1 => wl_region (wl_give rfl (g_box 23 _ (kc (k)) rfl ?_))
  intro w2 t_ b_
  replace hM := hM.new t_ b_
  clear t_ b_
  try simp only [nz]
  refine wl_give rfl (g_box 25 _ (plc (P)) rfl fun w3 t_ b_ => ?_)
  replace hM := hM.new t_ b_
  clear t_ b_
  refine wl_fare kn ?_
  simp (disch := omega) only [fx, pv, kx]
  refine wl_nil (κ1 _ _ ?_)
  refine wp_seq_k fun _ κ4 => wp_seq_k fun _ κ5 => ?_
  by_cases h1 : POk P
  · skip
    by_cases h2 : mo < 1
    · skip
      refine wl_region (wl_give rfl (g_load_all 25 _ (w2.heap.size) (plc (P)) 25 _ rfl (hM.get 0 rfl) Tryz.underlying25 rfl (szPl _) ?_))
      try simp only [nz]
      refine wl_give rfl (g_cM hM (kf11 _ _) (may_yes P w3 h1) rfl fun w6 hM => wl_fare kn ?_)
      simp (config := { maxSteps := 10000000 }) (disch := omega) only [fx, pv, kx]
      refine wl_nil (κ5 _ _ ?_)
      refine wp_cond_true rfl (wp_seq_k fun _ κ7 => ?_)
      refine wl_region (wl_fare kn ?_)
      simp (disch := omega) only [fx, pv, kx]
      refine wl_nil (κ7 _ _ ?_)
      refine wp_ret ?_
      go_ret2
      exact ⟨rfl, hM.below⟩
    · skip
      by_cases h3 : 64 < mo
      · skip
        refine wl_region (wl_give rfl (g_load_all 25 _ (w2.heap.size) (plc (P)) 25 _ rfl (hM.get 0 rfl) Tryz.underlying25 rfl (szPl _) ?_))
        try simp only [nz]
        refine wl_give rfl (g_cM hM (kf11 _ _) (may_yes P w3 h1) rfl fun w8 hM => wl_fare kn ?_)
        simp (config := { maxSteps := 10000000 }) (disch := omega) only [fx, pv, kx]
        refine wl_nil (κ5 _ _ ?_)
        refine wp_cond_true rfl (wp_seq_k fun _ κ9 => ?_)
        refine wl_region (wl_fare kn ?_)
        simp (disch := omega) only [fx, pv, kx]
        refine wl_nil (κ9 _ _ ?_)
        refine wp_ret ?_
        go_ret2
        exact ⟨rfl, hM.below⟩
      · have hb : ¬ (1 ≤ x ∧ x ≤ 64 ∧ 1 ≤ y ∧ y ≤ 64) := fun hb => h ⟨h1, by omega, by omega, hb⟩
        refine wl_region (wl_give rfl (g_load_all 25 _ (w2.heap.size) (plc (P)) 25 _ rfl (hM.get 0 rfl) Tryz.underlying25 rfl (szPl _) ?_))
        try simp only [nz]
        refine wl_give rfl (g_cM hM (kf11 _ _) (may_yes P w3 h1) rfl fun w10 hM => wl_fare kn ?_)
        simp (config := { maxSteps := 10000000 }) (disch := omega) only [fx, pv, kx]
        refine wl_nil (κ5 _ _ ?_)
        refine wp_cond_false rfl (wp_skip ?_)
        refine κ4 _ _ (wp_seq_k fun _ κ11 => ?_)
        refine wl_region (wl_fare kn ?_)
        simp (disch := omega) only [fx, pv, kx]
        refine wl_give rfl (g_cM hM (kf33 _ _) (bnew_bad x y w10 hb) rfl fun w12 hM => wl_fare kn ?_)
        simp (config := { maxSteps := 10000000 }) (disch := omega) only [fx, pv, kx]
        refine wl_nil (κ11 _ _ ?_)
        refine wp_seq_k fun _ κ13 => wp_seq_k fun _ κ14 => wl_region (wl_fare kn ?_)
        simp (disch := omega) only [fx, pv, kx]
        refine wl_nil (κ14 _ _ ?_)
        refine wp_cond_true rfl (wp_seq_k fun _ κ15 => ?_)
        refine wl_region (wl_fare kn ?_)
        simp (disch := omega) only [fx, pv, kx]
        refine wl_nil (κ15 _ _ ?_)
        refine wp_ret ?_
        go_ret2
        exact ⟨rfl, hM.below⟩
  · skip
    refine wl_region (wl_give rfl (g_load_all 25 _ (w2.heap.size) (plc (P)) 25 _ rfl (hM.get 0 rfl) Tryz.underlying25 rfl (szPl _) ?_))
    try simp only [nz]
    refine wl_give rfl (g_cM hM (kf11 _ _) (may_no P w3 h1) rfl fun w16 hM => wl_fare kn ?_)
    simp (config := { maxSteps := 10000000 }) (disch := omega) only [fx, pv, kx]
    refine wl_nil (κ5 _ _ ?_)
    refine wp_cond_true rfl (wp_seq_k fun _ κ17 => ?_)
    refine wl_region (wl_fare kn ?_)
    simp (disch := omega) only [fx, pv, kx]
    refine wl_nil (κ17 _ _ ?_)
    refine wp_ret ?_
    go_ret2
    exact ⟨rfl, hM.below⟩
set_option maxHeartbeats 4000000 in
theorem rcnew_any {w0 w : World} {R : List HP} (k : Ky) (P : Pl) (mo : Int) (x : Nat) (y : Int) (hM : Ms w0 w R) (hP : POk P) (hmo : 1 ≤ mo ∧ mo ≤ 64) (hx : 1 ≤ x ∧ x ≤ 64) (hy : 1 ≤ y ∧ y ≤ 64) : Calls Tryz.prog 12 #[.agg (kc k).toArray, .agg (plc P).toArray, .int .i64 mo, .int .i64 ((x : Nat) : Int), .int .i64 y] w fun e w' => ∃ p, e = .returned (.tuple #[.pointer (some ⟨p, 0, none⟩), .int .i64 0]) ∧ Ms w0 w' (rv p ⟨P, k, 0, mo, x, y, 0, [], [], 0⟩ :: R) := by
  go_enter Tryz.func12, Tryz.ntmps12
  refine wp_seq_k fun _ κ1 => wl_region (wl_give rfl (g_box 23 _ (kc (k)) rfl ?_))
  intro w2 t_ b_
  replace hM := hM.new t_ b_
  clear t_ b_
  try simp only [nz]
  refine wl_give rfl (g_box 25 _ (plc (P)) rfl fun w3 t_ b_ => ?_)
  replace hM := hM.new t_ b_
  clear t_ b_
  refine wl_fare kn ?_
  simp (disch := omega) only [fx, pv, kx]
  refine wl_nil (κ1 _ _ ?_)
  refine wp_seq_k fun _ κ4 => wp_seq_k fun _ κ5 => wl_region (wl_give rfl (g_load_all 25 _ (w2.heap.size) (plc (P)) 25 _ rfl (hM.get 0 rfl) Tryz.underlying25 rfl (szPl _) ?_))
  try simp only [nz]
  refine wl_give rfl (g_cM hM (kf11 _ _) (may_yes P w3 hP) rfl fun w6 hM => wl_fare kn ?_)
  simp (config := { maxSteps := 10000000 }) (disch := omega) only [fx, pv, kx, ((decide_eq_false (by omega)) : decide ((mo) < (1)) = false), ((decide_eq_false (by omega)) : decide ((64) < (mo)) = false)]
  refine wl_nil (κ5 _ _ ?_)
  refine wp_cond_false rfl (wp_skip ?_)
  refine κ4 _ _ (wp_seq_k fun _ κ7 => ?_)
  refine wl_region (wl_fare kn ?_)
  simp (disch := omega) only [fx, pv, kx]
  refine wl_give rfl (g_call 33 _ _ [.int .i64 (((x : Nat) : Int)), .int .i64 (y)] (kf33 _ _) rfl ((bnew_any x y hM hx.1 hx.2 hy.1 hy.2).mono ?_))
  rintro e w8 ⟨q9, rfl, h_⟩
  refine ⟨_, rfl, ?_⟩
  replace hM : Ms w0 w8 (bf q9 x y 0 [] :: blk (w2.heap.size) (plc (P)) 25 :: blk (w.heap.size) (kc (k)) 23 :: R) := h_
  clear h_
  refine wl_fare kn ?_
  simp (config := { maxSteps := 10000000 }) (disch := omega) only [fx, pv, kx]
  refine wl_nil (κ7 _ _ ?_)
  refine wp_seq_k fun _ κ10 => wp_seq_k fun _ κ11 => wl_region (wl_fare kn ?_)
  simp (disch := omega) only [fx, pv, kx]
  refine wl_nil (κ11 _ _ ?_)
  refine wp_cond_false rfl (wp_skip ?_)
  refine κ10 _ _ (wp_seq_k fun _ κ12 => ?_)
  refine wl_region (wl_give rfl (g_load_all 25 _ (w2.heap.size) (plc (P)) 25 _ rfl (hM.get 1 rfl) Tryz.underlying25 rfl (szPl _) ?_))
  try simp only [nz]
  refine wl_give rfl (g_load_all 23 _ (w.heap.size) (kc (k)) 23 _ rfl (hM.get 2 rfl) Tryz.underlying23 rfl (szK _) ?_)
  try simp only [nz]
  refine wl_give rfl (g_bldM1 _ (k) rfl ?_)
  refine wl_fare kn ?_
  simp (disch := omega) only [fx, pv, kx]
  refine wl_give rfl (g_mmap (enc := kI) hM fun w13 h_ => ?_)
  replace hM : Ms w0 w13 (mp kI (w8.heap.size) ([]) :: bf q9 x y 0 [] :: blk (w2.heap.size) (plc (P)) 25 :: blk (w.heap.size) (kc (k)) 23 :: R) := h_
  clear h_
  try simp only [nz]
  refine wl_give rfl (g_bldRc _ _ _ _ _ (P) (k) (0) (mo) (.pointer (some ⟨q9, 0, none⟩)) (.map (some (w8.heap.size))) rfl rfl rfl rfl rfl rfl rfl ?_)
  try simp only [nz]
  refine wl_give rfl (g_box 95 _ (rcc (P) (k) (0) (mo) (.pointer (some ⟨q9, 0, none⟩)) (.map (some (w8.heap.size))) (0)) rfl fun w14 t_ b_ => ?_)
  replace hM := hM.new t_ b_
  clear t_ b_
  refine wl_fare kn ?_
  simp (disch := omega) only [fx, pv, kx]
  refine wl_nil (κ12 _ _ ?_)
  refine wp_ret ?_
  go_ret2
  refine ⟨w13.heap.size, rfl, ?_⟩
  exact rv_mk (S := ⟨P, k, 0, mo, x, y, 0, [], [], 0⟩) (E := []) ((((bl_new (((((hM.erase 3).erase 3).up 2 rfl).up 1 rfl).up 2 rfl)).up 2 rfl).up 2 rfl))
end Go.Proofs.YtcclcemdodoiiaaGreatDoor
