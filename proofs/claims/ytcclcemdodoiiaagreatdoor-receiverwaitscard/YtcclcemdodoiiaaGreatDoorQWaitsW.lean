/- ReceiverWaits: the walk. -/
import Derived.Test.YtcclcemdodoiiaaGreatDoorQRcM3
import Derived.Test.YtcclcemdodoiiaaGreatDoorQAwake
import Derived.Test.YtcclcemdodoiiaaGreatDoorQArgs
import Derived.WalkKit
import Derived.WalkSpells
import Derived.WalkLawsBesides
namespace Go.Proofs.YtcclcemdodoiiaaGreatDoor.receiverWaits
set_option maxRecDepth 10000
open Go Go.RowKit
set_option linter.unusedVariables false
set_option linter.unusedSimpArgs false

/-- A receiver at which these texts of the first interval wait, d dropped. -/
def wS (s : Ky) (P : Pl) (d : Int) (se : List ByteArray) : Rc := ⟨P, kyk s P 0, 0, 9, 3, 3, d, se.map (fun x => ((1 : Int), tgs (kyk s P 1) 1 x ++ x)), [], 0⟩
/-- So far. -/
structure Wi (l d : Int) (se : List ByteArray) (j : Nat) : Prop where
  l0 : 0 ≤ l
  l1 : l ≤ 1
  d0 : 0 ≤ d
  d1 : d ≤ j
  le : se.length ≤ 3
  sz : ∀ x ∈ se, x.size ≤ 300
theorem wS_len (s : Ky) (P : Pl) (d : Int) (se : List ByteArray) : (((wS s P d se).L.length : Nat) : Int) = ((se.length : Nat) : Int) := by
  show (((se.map _).length : Nat) : Int) = _
  rw [List.length_map]
theorem wS_small {s : Ky} {P : Pl} {d : Int} {se : List ByteArray} (h : se.length ≤ 3) : (wS s P d se).L.length ≤ 1000000 := by
  show (se.map _).length ≤ _
  rw [List.length_map]; omega
theorem wS_ok {s : Ky} {P : Pl} (hP : POk P) {l d : Int} {se : List ByteArray} {j : Nat} (h : Wi l d se j) (hj : j ≤ 20) : RcOk (wS s P d se) ∧ Sml 1000 (wS s P d se) := by
  obtain ⟨h0, h1, h2, h3, h4, h5⟩ := h
  refine ⟨⟨hP, Int.le_refl _, by show (0 : Int) ≤ P.ct; omega, (by decide : (1 : Int) ≤ 9 ∧ (9 : Int) ≤ 64), (by decide : 1 ≤ 3 ∧ 3 ≤ 64), (by decide : (1 : Int) ≤ 3 ∧ (3 : Int) ≤ 64), fun u hu => ?_⟩, ?_⟩
  · obtain ⟨x, hx, rfl⟩ := List.mem_map.1 hu
    have hs := h5 x hx
    have e : (tgs (kyk s P 1) 1 x ++ x).size = 16 + x.size := by rw [ByteArray.size_append, tgs_size]
    refine ⟨Int.le_refl _, by show (1 : Int) ≤ P.ct; omega, ?_, ?_⟩
    · show 16 ≤ (tgs (kyk s P 1) 1 x ++ x).size; omega
    · show (tgs (kyk s P 1) 1 x ++ x).size ≤ 1016; omega
  · have e : (wS s P d se).L.length = se.length := by show (se.map _).length = _; rw [List.length_map]
    exact ⟨by rw [e]; show se.length + 0 ≤ 1000; omega, (by decide : (0 : Int) ≤ 0), by rw [e]; show (0 : Int) + ((se.length : Nat) : Int) ≤ 1000; omega, by show (0 : Int) ≤ d ∧ d ≤ 1000; omega⟩
theorem any_key {A : ByteArray → ByteArray} (hA : ∀ x, (A x).size = 16) (se : List ByteArray) (x : ByteArray) : hasT 1 (A x ++ x) (se.map (fun y => ((1 : Int), A y ++ y))) = isin x se := by
  induction se with
  | nil => rfl
  | cons y l ih =>
    unfold hasT isin at ih ⊢
    rw [List.map_cons, List.any_cons, List.any_cons, ih]
    congr 1
    rw [decide_eq_true (rfl : (1 : Int) = 1), Bool.true_and]
    by_cases e : y = x
    · subst e; rw [decide_eq_true rfl, decide_eq_true rfl]
    · rw [decide_eq_false e]
      refine decide_eq_false fun h => e ?_
      have h2 := congrArg tl16 h
      rwa [tl16_app (hA _), tl16_app (hA _)] at h2
theorem wS_in {s : Ky} {P : Pl} {d : Int} {se : List ByteArray} {x : ByteArray} : hasT 1 (tgs (kyk s P 1) 1 x ++ x) (wS s P d se).L = isin x se := any_key (A := tgs (kyk s P 1) 1) (tgs_size (kyk s P 1) 1) se x
theorem wS_of (s : Ky) (P : Pl) (d : Int) (se : List ByteArray) : (ofI 1 (wS s P d se).L).length = se.length := by
  show (ofI 1 (se.map _)).length = _
  unfold ofI
  rw [List.length_map, List.filter_map, List.length_map, List.filter_eq_self.2 (fun y _ => by show decide ((1 : Int) = 1) = true; decide)]
theorem wS_full {s : Ky} {P : Pl} {d : Int} {se : List ByteArray} {x : ByteArray} (hx : isin x se = false) (h : se.length = 3) : bpE 3 3 1 (tgs (kyk s P 1) 1 x ++ x) (wS s P d se).L = 4 := by
  unfold bpE
  rw [wS_in, hx, wS_of, h]; rfl
theorem wS_room {s : Ky} {P : Pl} {d : Int} {se : List ByteArray} {x : ByteArray} (hx : isin x se = false) (h : se.length < 3) : bpE 3 3 1 (tgs (kyk s P 1) 1 x ++ x) (wS s P d se).L = 0 := by
  have hl := ivs_le (wS s P d se).L
  have e : (wS s P d se).L.length = se.length := by show (se.map _).length = _; rw [List.length_map]
  unfold bpE
  rw [if_neg (by decide), wS_in, hx, if_neg (by decide), wS_of, if_neg (by omega)]
theorem pte_1 {P : Pl} (hP : POk P) : pte P 1 = 0 := by rw [pte_le hP (Int.le_refl _) (by omega)]; omega
theorem wS_safe {P : Pl} (hP : POk P) : psf P 1 P.st = true := by
  unfold psf
  refine decide_eq_true ⟨⟨hP, Int.le_refl _, by omega⟩, ?_⟩
  unfold bgn
  have := Int.mul_pos (show (0 : Int) < 1 + P.dl - 1 by omega) (show (0 : Int) < P.lg by omega)
  omega
theorem wS_lnp {s : Ky} {P : Pl} (hP : POk P) (d : Int) (se : List ByteArray) (x : ByteArray) : lnp (wS s P d se) (own s P 1 x) = (([], 0), wS s P d se) := lnp_none (by show ¬ 0 < pte P 1; rw [pte_1 hP]; decide)
theorem wS_twice {s : Ky} {P : Pl} (hP : POk P) {d : Int} {se : List ByteArray} {x : ByteArray} (hs : x.size ≤ 300) (hx : isin x se = true) : got (wS s P d se) (own s P 1 x) P.st = (([], 11), wS s P d se) :=
  got_ok (own_form (Int.le_refl _) (by show (1 : Int) ≤ P.ct; omega) (by omega)) (wS_lnp hP d se x) (wtg_err (wS_safe hP) rfl (bpE_there (Int.le_refl _) (wS_in.trans hx)) (by decide) (by decide))
theorem wS_many {s : Ky} {P : Pl} (hP : POk P) {d : Int} {se : List ByteArray} {x : ByteArray} (hs : x.size ≤ 300) (hx : isin x se = false) (h : se.length = 3) : got (wS s P d se) (own s P 1 x) P.st = (([], 4), wS s P (d + 1) se) :=
  got_ok (own_form (Int.le_refl _) (by show (1 : Int) ≤ P.ct; omega) (by omega)) (wS_lnp hP d se x) (wtg_full (wS_safe hP) rfl (wS_full hx h))
theorem wS_new {s : Ky} {P : Pl} (hP : POk P) {d : Int} {se : List ByteArray} {x : ByteArray} (hs : x.size ≤ 300) (hx : isin x se = false) (h : se.length < 3) : got (wS s P d se) (own s P 1 x) P.st = (([], 0), wS s P d (se ++ [x])) := by
  have e := got_ok (S := wS s P d se) (q := own s P 1 x) (own_form (Int.le_refl _) (by show (1 : Int) ≤ P.ct; omega) (by omega)) (wS_lnp hP d se x) (wtg_put (wS_safe hP) rfl (wS_room hx h))
  refine e.trans ?_
  simp [wS]
theorem mput_tru {se : List ByteArray} {x : ByteArray} (hx : isin x se = false) : mput (se.map tru) x (.bool true) = (se ++ [x]).map tru := by
  rw [mput_new, List.map_append]; rfl
  rw [List.map_map]
  intro h
  obtain ⟨y, hy, e⟩ := List.mem_map.1 h
  have e2 : y = x := e
  subst e2
  have : isin y se = true := List.any_eq_true.2 ⟨y, hy, decide_eq_true rfl⟩
  rw [hx] at this; cases this
/-- What is sent. -/
theorem wS_send {s : Ky} {P : Pl} (hP : POk P) {l : Int} (hl : l ≤ 1) {x : ByteArray} (hs : x.size ≤ 300) : sdA s P l P.st x = ((own s P 1 x, 0), 1) :=
  sdA_ok s P l P.st 1 _ x (pat_in hP (Int.le_refl _) (by omega) (by rw [bgn_one]; exact Int.le_refl _) (by rw [bgn_succ, bgn_one]; omega)) hl (by omega) rfl
set_option maxHeartbeats 4000000 in
theorem walk_1 (s : Ky) (P : Pl) (ao : Option Addr) (n cap : Nat) (w : World) (hT : Tabs w) (hP : ¬ POk P) : Calls Tryz.prog 7 #[.agg (kc s).toArray, .agg (plc P).toArray, .slice ao n cap] w fun e w' => e = .returned (.bool true) ∧ Below w.heap.size w w' := by
  have hM := Ms.refl w
  go_enter Tryz.func7, Tryz.ntmps7
  refine wp_seq_k fun _ κ1 => wl_region (wl_give rfl (g_box 23 _ (kc (s)) rfl ?_))
  intro w2 t_ b_
  replace hM := hM.new t_ b_
  clear t_ b_
  try simp only [nz]
  refine wl_give rfl (g_box 25 _ (plc (P)) rfl fun w3 t_ b_ => ?_)
  replace hM := hM.new t_ b_
  clear t_ b_
  refine wl_fare kn ?_
  simp (disch := omega) only [fx, pv, kx]
  refine wl_nil (κ1 _ _ ?_)
  refine wp_seq_k fun _ κ4 => wp_seq_k fun _ κ5 => wl_region (wl_give rfl (g_cM hM (kf10 _ _) (awake_any w3 (hM.tabs hT)) rfl ?_))
  intro w6 hM
  refine wl_fare kn ?_
  simp (disch := omega) only [fx, pv, kx]
  refine wl_nil (κ5 _ _ ?_)
  refine wp_cond_false rfl (wp_skip ?_)
  refine κ4 _ _ (wp_seq_k fun _ κ7 => ?_)
  refine wp_seq_k fun _ κ8 => wl_region (wl_give rfl (g_load_all 25 _ (w2.heap.size) (plc (P)) 25 _ rfl (hM.get 0 rfl) Tryz.underlying25 rfl (szPl _) ?_))
  try simp only [nz]
  refine wl_give rfl (g_cM hM (kf11 _ _) (may_no P w6 hP) rfl fun w9 hM => wl_fare kn ?_)
  simp (config := { maxSteps := 10000000 }) (disch := omega) only [fx, pv, kx]
  refine wl_nil (κ8 _ _ ?_)
  refine wp_cond_true rfl (wp_seq_k fun _ κ10 => ?_)
  refine wl_region (wl_fare kn ?_)
  simp (disch := omega) only [fx, pv, kx]
  refine wl_nil (κ10 _ _ ?_)
  refine wp_ret ?_
  go_ret
  exact ⟨rfl, hM.below⟩
set_option maxHeartbeats 4000000 in
theorem walk_2 (s : Ky) (P : Pl) (ao : Option Addr) (n cap : Nat) (w : World) (hT : Tabs w) (hP : POk P) (h1 : 16 < P.ct) : Calls Tryz.prog 7 #[.agg (kc s).toArray, .agg (plc P).toArray, .slice ao n cap] w fun e w' => e = .returned (.bool true) ∧ Below w.heap.size w w' := by
  have hM := Ms.refl w
  go_enter Tryz.func7, Tryz.ntmps7
  refine wp_seq_k fun _ κ1 => wl_region (wl_give rfl (g_box 23 _ (kc (s)) rfl ?_))
  intro w2 t_ b_
  replace hM := hM.new t_ b_
  clear t_ b_
  try simp only [nz]
  refine wl_give rfl (g_box 25 _ (plc (P)) rfl fun w3 t_ b_ => ?_)
  replace hM := hM.new t_ b_
  clear t_ b_
  refine wl_fare kn ?_
  simp (disch := omega) only [fx, pv, kx]
  refine wl_nil (κ1 _ _ ?_)
  refine wp_seq_k fun _ κ4 => wp_seq_k fun _ κ5 => wl_region (wl_give rfl (g_cM hM (kf10 _ _) (awake_any w3 (hM.tabs hT)) rfl ?_))
  intro w6 hM
  refine wl_fare kn ?_
  simp (disch := omega) only [fx, pv, kx]
  refine wl_nil (κ5 _ _ ?_)
  refine wp_cond_false rfl (wp_skip ?_)
  refine κ4 _ _ (wp_seq_k fun _ κ7 => ?_)
  refine wp_seq_k fun _ κ8 => wl_region (wl_give rfl (g_load_all 25 _ (w2.heap.size) (plc (P)) 25 _ rfl (hM.get 0 rfl) Tryz.underlying25 rfl (szPl _) ?_))
  try simp only [nz]
  refine wl_give rfl (g_cM hM (kf11 _ _) (may_yes P w6 hP) rfl fun w9 hM => wl_fare kn ?_)
  simp (config := { maxSteps := 10000000 }) (disch := omega) only [fx, pv, kx, (hM.get 0 rfl).cell 3 (.int .i64 ((P).ct)) rfl]
  refine wl_nil (κ8 _ _ ?_)
  refine wp_cond_true rfl (wp_seq_k fun _ κ10 => ?_)
  refine wl_region (wl_fare kn ?_)
  simp (disch := omega) only [fx, pv, kx]
  refine wl_nil (κ10 _ _ ?_)
  refine wp_ret ?_
  go_ret
  exact ⟨rfl, hM.below⟩
set_option maxHeartbeats 4000000 in
theorem walk_3 (s : Ky) (P : Pl) (ao : Option Addr) (n cap : Nat) (w : World) (hT : Tabs w) (hP : POk P) (h1 : ¬ 16 < P.ct) (h2 : 20 < ((n : Nat) : Int)) : Calls Tryz.prog 7 #[.agg (kc s).toArray, .agg (plc P).toArray, .slice ao n cap] w fun e w' => e = .returned (.bool true) ∧ Below w.heap.size w w' := by
  have hM := Ms.refl w
  go_enter Tryz.func7, Tryz.ntmps7
  refine wp_seq_k fun _ κ1 => wl_region (wl_give rfl (g_box 23 _ (kc (s)) rfl ?_))
  intro w2 t_ b_
  replace hM := hM.new t_ b_
  clear t_ b_
  try simp only [nz]
  refine wl_give rfl (g_box 25 _ (plc (P)) rfl fun w3 t_ b_ => ?_)
  replace hM := hM.new t_ b_
  clear t_ b_
  refine wl_fare kn ?_
  simp (disch := omega) only [fx, pv, kx]
  refine wl_nil (κ1 _ _ ?_)
  refine wp_seq_k fun _ κ4 => wp_seq_k fun _ κ5 => wl_region (wl_give rfl (g_cM hM (kf10 _ _) (awake_any w3 (hM.tabs hT)) rfl ?_))
  intro w6 hM
  refine wl_fare kn ?_
  simp (disch := omega) only [fx, pv, kx]
  refine wl_nil (κ5 _ _ ?_)
  refine wp_cond_false rfl (wp_skip ?_)
  refine κ4 _ _ (wp_seq_k fun _ κ7 => ?_)
  refine wp_seq_k fun _ κ8 => wl_region (wl_give rfl (g_load_all 25 _ (w2.heap.size) (plc (P)) 25 _ rfl (hM.get 0 rfl) Tryz.underlying25 rfl (szPl _) ?_))
  try simp only [nz]
  refine wl_give rfl (g_cM hM (kf11 _ _) (may_yes P w6 hP) rfl fun w9 hM => wl_fare kn ?_)
  simp (config := { maxSteps := 10000000 }) (disch := omega) only [fx, pv, kx, (hM.get 0 rfl).cell 3 (.int .i64 ((P).ct)) rfl]
  refine wl_give rfl (g_len _ 59 9 (ao) (n) (cap) (((n : Nat) : Int)) Tryz.underlying59 rfl (rfl) ?_)
  refine wl_fare kn ?_
  simp (config := { maxSteps := 10000000 }) (disch := omega) only [fx, pv, kx]
  refine wl_nil (κ8 _ _ ?_)
  refine wp_cond_true rfl (wp_seq_k fun _ κ10 => ?_)
  refine wl_region (wl_fare kn ?_)
  simp (disch := omega) only [fx, pv, kx]
  refine wl_nil (κ10 _ _ ?_)
  refine wp_ret ?_
  go_ret
  exact ⟨rfl, hM.below⟩
set_option maxHeartbeats 4000000 in
theorem walk_4 (s : Ky) (P : Pl) (ao : Option Addr) (n cap : Nat) (w : World) (hT : Tabs w) (hP : POk P) (h1 : ¬ 16 < P.ct) (h2 : ¬ 20 < ((n : Nat) : Int)) (hc : LV OkS w ao n) : Calls Tryz.prog 7 #[.agg (kc s).toArray, .agg (plc P).toArray, .slice ao n cap] w fun e w' => e = .returned (.bool true) ∧ Below w.heap.size w w' := by
  have hM := Ms.refl w
  go_enter Tryz.func7, Tryz.ntmps7
  refine wp_seq_k fun _ κ1 => wl_region (wl_give rfl (g_box 23 _ (kc (s)) rfl ?_))
  intro w2 t_ b_
  replace hM := hM.new t_ b_
  clear t_ b_
  try simp only [nz]
  refine wl_give rfl (g_box 25 _ (plc (P)) rfl fun w3 t_ b_ => ?_)
  replace hM := hM.new t_ b_
  clear t_ b_
  refine wl_fare kn ?_
  simp (disch := omega) only [fx, pv, kx]
  refine wl_nil (κ1 _ _ ?_)
  refine wp_seq_k fun _ κ4 => wp_seq_k fun _ κ5 => wl_region (wl_give rfl (g_cM hM (kf10 _ _) (awake_any w3 (hM.tabs hT)) rfl ?_))
  intro w6 hM
  refine wl_fare kn ?_
  simp (disch := omega) only [fx, pv, kx]
  refine wl_nil (κ5 _ _ ?_)
  refine wp_cond_false rfl (wp_skip ?_)
  refine κ4 _ _ (wp_seq_k fun _ κ7 => ?_)
  refine wp_seq_k fun _ κ8 => wl_region (wl_give rfl (g_load_all 25 _ (w2.heap.size) (plc (P)) 25 _ rfl (hM.get 0 rfl) Tryz.underlying25 rfl (szPl _) ?_))
  try simp only [nz]
  refine wl_give rfl (g_cM hM (kf11 _ _) (may_yes P w6 hP) rfl fun w9 hM => wl_fare kn ?_)
  simp (config := { maxSteps := 10000000 }) (disch := omega) only [fx, pv, kx, (hM.get 0 rfl).cell 3 (.int .i64 ((P).ct)) rfl]
  refine wl_give rfl (g_len _ 59 9 (ao) (n) (cap) (((n : Nat) : Int)) Tryz.underlying59 rfl (rfl) ?_)
  refine wl_fare kn ?_
  simp (config := { maxSteps := 10000000 }) (disch := omega) only [fx, pv, kx]
  refine wl_nil (κ8 _ _ ?_)
  refine wp_cond_false rfl (wp_skip ?_)
  refine κ7 _ _ (wp_seq_k fun _ κ10 => ?_)
  refine wl_region (wl_give rfl (g_load_all 23 _ (w.heap.size) (kc (s)) 23 _ rfl (hM.get 1 rfl) Tryz.underlying23 rfl (szK _) ?_))
  try simp only [nz]
  refine wl_give rfl (g_load_all 25 _ (w2.heap.size) (plc (P)) 25 _ rfl (hM.get 0 rfl) Tryz.underlying25 rfl (szPl _) ?_)
  try simp only [nz]
  refine wl_give rfl (g_call 25 _ _ [.agg (kc (s)).toArray, .agg (plc (P)).toArray] (kf25 _ _) rfl ((snew_any (s) (P) w w9 _ hM hT hP).mono ?_))
  rintro e w11 ⟨q12, rfl, h_⟩
  refine ⟨_, rfl, ?_⟩
  replace hM : Ms w w11 [sn q12 (s) (P) (0), blk (w2.heap.size) (plc (P)) 25, blk (w.heap.size) (kc (s)) 23] := h_
  clear h_
  refine wl_fare kn ?_
  simp (config := { maxSteps := 10000000 }) (disch := omega) only [fx, pv, kx]
  refine wl_nil (κ10 _ _ ?_)
  refine wp_seq_k fun _ κ13 => wp_seq_k fun _ κ14 => wl_region (wl_fare kn ?_)
  simp (disch := omega) only [fx, pv, kx]
  refine wl_give rfl (g_peqS _ ((some ⟨q12, 0, none⟩)) false rfl rfl ?_)
  try simp only [nz]
  refine wl_nil (κ14 _ _ ?_)
  refine wp_cond_false rfl (wp_skip ?_)
  refine κ13 _ _ (wp_seq_k fun _ κ15 => ?_)
  refine wp_region_steps (by kernel_rfl) (by kernel_rfl) [3] [0, 0, 0, 0, 1, 1, 1, 1, 1] [1, 0, 0, 1, 1, 1, 1, 1, 1] (by kernel_rfl) (Pm := Nat) (fun π => [.pointer (some ⟨q12, 0, none⟩), .agg (kc (kyk s P 0)).toArray, .agg (plc (P)).toArray, .tuple #[.pointer (some ⟨π, 0, none⟩), .int .i64 (0)], .tuple #[.pointer (some ⟨π, 0, none⟩), .int .i64 (0)], .pointer (some ⟨π, 0, none⟩), .int .i64 (0), .pointer (some ⟨π, 0, none⟩), .int .i64 (0)]) (fun _ => by rfl) (fun j_ π wx => match j_ with | 0 => Ms w wx [sn q12 (s) (P) (0), blk (w2.heap.size) (plc (P)) 25, blk (w.heap.size) (kc (s)) 23] | _ => Ms w wx [rv π (wS s P (0) ([])), sn q12 (s) (P) (0), blk (w2.heap.size) (plc (P)) 25, blk (w.heap.size) (kc (s)) 23]) (0) hM.drew ?_ ?_ ?_
  · intro j_ k_ o_ hj_ ho_ π wx hM
    rcases j_ with _ | j_
    · obtain rfl := Option.some.inj hj_
      cases so ho_
      simp only [fullL, Act.put, st_a, st_s, st_0]
      change Ms _ _ _ at hM
      exact gw rfl (g_call 12 _ _ [.agg (kc (kyk s P 0)).toArray, .agg (plc (P)).toArray, .int .i64 (9), .int .i64 (3), .int .i64 (3)] (kf12 _ _) rfl ((rcnew_any (kyk s P 0) P 9 3 3 hM hP (by decide) (by decide) (by decide)).mono (fun e w' ⟨g_0, h1_, h2_⟩ => ⟨_, h1_, ⟨(g_0), rfl, fun i h1 h2 => by rcases i with _ | _ | _ | _ | _ | _ | _ | _ | _ | i <;> first | rfl | trivial | exact absurd rfl h2 | exact absurd h1 (by decide), h2_⟩⟩)))
    · simp at hj_
  · intro i_ o_ ho_ hi_ j_ hd_ hh_ hj_ π wx hM
    simp only [fullL, Act.put, st_a, st_s, st_0]
    rcases i_ with _ | _ | _ | _ | _ | _ | _ | _ | _ | i_
    · cases so ho_
      exact gw rfl (g_move _ _ rfl ⟨rfl, hM⟩)
    · cases so ho_
      rcases j_ with _ | _ | j_
      · change Ms _ _ _ at hM
        exact gw rfl (g_call 26 _ _ [.pointer (some ⟨q12, 0, none⟩)] (kf26 _ _) rfl ((known_v hM (kyk s P 0) ⟨rfl⟩).mono (fun _ _ ⟨h1_, h2_⟩ => ⟨_, h1_, rfl, hM.call h2_⟩)))
      · exact absurd hh_ (by decide)
      · exact absurd hj_ (by simp)
    · cases so ho_
      rcases j_ with _ | _ | j_
      · change Ms _ _ _ at hM
        exact gw rfl (g_load_all 25 _ (w2.heap.size) (plc (P)) 25 _ rfl (hM.get 1 rfl) Tryz.underlying25 rfl (szPl _) ⟨rfl, hM⟩)
      · exact absurd hh_ (by decide)
      · exact absurd hj_ (by simp)
    · exact absurd (by decide) hi_
    · cases so ho_
      exact gw rfl (g_move _ _ rfl ⟨rfl, hM⟩)
    · cases so ho_
      exact gw rfl (g_extract _ _ _ _ rfl rfl ⟨rfl, hM⟩)
    · cases so ho_
      exact gw rfl (g_extract _ _ _ _ rfl rfl ⟨rfl, hM⟩)
    · cases so ho_
      exact gw rfl (g_assign _ _ rfl ⟨rfl, hM⟩)
    · cases so ho_
      exact gw rfl (g_assign _ _ rfl ⟨rfl, hM⟩)
    · simp at ho_
  · simp only [fullL, Act.put, st_a, st_s, st_0]
    rintro p17 w16 hM
    replace hM : Ms w w16 [rv p17 (wS s P (0) ([])), sn q12 (s) (P) (0), blk (w2.heap.size) (plc (P)) 25, blk (w.heap.size) (kc (s)) 23] := hM
    refine κ15 _ _ (wp_seq_k fun _ κ18 => ?_)
    refine wp_seq_k fun _ κ19 => wl_region (wl_fare kn ?_)
    simp (disch := omega) only [fx, pv, kx]
    refine wl_give rfl (g_peqC _ ((some ⟨p17, 0, none⟩)) false rfl rfl ?_)
    try simp only [nz]
    refine wl_nil (κ19 _ _ ?_)
    refine wp_cond_false rfl (wp_skip ?_)
    refine κ18 _ _ (wp_seq_k fun _ κ20 => ?_)
    refine wl_region (wl_give rfl (g_mmap (enc := kS) hM ?_))
    intro w21 h_
    replace hM : Ms w w21 [mp kS (w16.heap.size) ([]), rv p17 (wS s P (0) ([])), sn q12 (s) (P) (0), blk (w2.heap.size) (plc (P)) 25, blk (w.heap.size) (kc (s)) 23] := h_
    clear h_
    refine wl_fare kn ?_
    simp (disch := omega) only [fx, pv, kx]
    refine wl_nil (κ20 _ _ ?_)
    refine wp_seq_k fun _ κ22 => wp_seq_k fun _ κ23 => wl_region (wl_fare kn ?_)
    simp (disch := omega) only [fx, pv, kx]
    refine wl_give rfl (g_len _ 59 9 (ao) (n) (cap) (((n : Nat) : Int)) Tryz.underlying59 rfl (rfl) ?_)
    refine wl_fare kn ?_
    simp (disch := omega) only [fx, pv, kx]
    refine wl_nil (κ23 _ _ ?_)
    refine wp_block ?_
    go_loopw [54] (fun v54 wr => ∃ (j : Nat) (l d : Int) (se : List ByteArray), j ≤ n ∧ v54 = .int .i64 ((j : Nat) : Int) ∧ Shut (Wi l d se j) ∧ Ms w wr [mp kS (w16.heap.size) ((se).map tru), rv p17 (wS s P (d) (se)), sn q12 (s) (P) (l), blk (w2.heap.size) (plc (P)) 25, blk (w.heap.size) (kc (s)) 23]) (fun v54 _ => (n - intOf v54).toNat)
    case atStart => exact ⟨0, 0, 0, [], Nat.zero_le _, rfl, ⟨⟨Int.le_refl _, by decide, Int.le_refl _, by decide, by decide, fun x hx => by cases hx⟩⟩, hM⟩
    case round =>
      clear hM
      obtain ⟨j, l, d, se, hj, rfl, hI, hM⟩ := hrel
      by_cases hjn : j < n
      · skip
        obtain ⟨b, o, u, eao, hcell, x, eu⟩ := hc j hjn
        subst eao
        subst eu
        have ej : Shut (IntKind.i64.wrap (((j : Nat) : Int) + 1) = ((j + 1 : Nat) : Int)) := ⟨by rw [wrap_id _ (by omega) (by omega)]; omega⟩
        by_cases h3 : 300 < ((x.size : Nat) : Int)
        · skip
          refine wp_seq_k fun _ κ24 => wl_region (wl_fare kn ?_)
          simp (disch := omega) only [fx, pv, kx, ((decide_eq_true (by omega)) : decide ((((j : Nat) : Int)) < (((n : Nat) : Int))) = true)]
          refine wl_nil (κ24 _ _ ?_)
          refine wp_seq_k fun _ κ25 => wp_cond_true rfl (wp_skip ?_)
          refine κ25 _ _ (wp_seq_k fun _ κ26 => ?_)
          refine wp_block (wp_seq_k fun _ κ27 => ?_)
          refine wl_region (wl_give rfl (g_ix _ _ 59 9 1 Tryz.underlying59 szof9 b o n cap j (o + j * 1) _ rfl rfl rfl hjn rfl ?_))
          try simp only [nz]
          refine wl_give rfl (g_ld1 9 _ (b) (o + j * 1) _ rfl (ld9 _ _ _ _ (by rw [Nat.mul_one]; exact cell_on hM hcell)) ?_)
          refine wl_fare kn ?_
          simp (disch := omega) only [fx, pv, kx]
          refine wl_nil (κ27 _ _ ?_)
          refine wp_seq_k fun _ κ28 => wp_seq_k fun _ κ29 => wl_region (wl_fare kn ?_)
          simp (disch := omega) only [fx, pv, kx]
          refine wl_give rfl (g_lenT _ (x) ((((x).size : Nat) : Int)) rfl (rfl) ?_)
          refine wl_fare kn ?_
          simp (disch := omega) only [fx, pv, kx]
          refine wl_nil (κ29 _ _ ?_)
          refine wp_cond_true rfl (wp_seq_k fun _ κ30 => ?_)
          refine wl_region (wl_fare kn ?_)
          simp (disch := omega) only [fx, pv, kx]
          refine wl_nil (κ30 _ _ ?_)
          refine wp_ret ?_
          go_ret
          exact ⟨rfl, hM.below⟩
        · have hx3 : x.size ≤ 300 := by omega
          have hS1 := wS_send (s := s) hP hI.out.l1 hx3
          have ho := wS_ok (s := s) hP hI.out (by omega)
          have hle := hI.out.le
          by_cases hx : isin x se = true
          · skip
            have hg1 := wS_twice (s := s) (d := d) hP hx3 hx
            obtain ⟨G, eG⟩ : ∃ G, tgs (kyk s P 1) 1 x = G := ⟨_, rfl⟩
            obtain ⟨T, eT⟩ : ∃ T, pte P 1 = T := ⟨_, rfl⟩
            obtain ⟨K, eK⟩ : ∃ K, (if 0 < T then kyk s P T else zk) = K := ⟨_, rfl⟩
            have hS : Shut (sdA s P l P.st x = ((⟨1, x, G, T, K⟩, 0), 1)) := ⟨by subst eG eT eK; exact hS1⟩
            have hg : got (wS s P (d) (se)) ⟨1, x, G, T, K⟩ P.st = (([], 11), wS s P (d) (se)) := by subst eG eT eK; exact hg1
            clear hS1 hg1 eG eT eK
            refine wp_seq_k fun _ κ31 => wl_region (wl_fare kn ?_)
            simp (disch := omega) only [fx, pv, kx, ((decide_eq_true (by omega)) : decide ((((j : Nat) : Int)) < (((n : Nat) : Int))) = true)]
            refine wl_nil (κ31 _ _ ?_)
            refine wp_seq_k fun _ κ32 => wp_cond_true rfl (wp_skip ?_)
            refine κ32 _ _ (wp_seq_k fun _ κ33 => ?_)
            refine wp_block (wp_seq_k fun _ κ34 => ?_)
            refine wl_region (wl_give rfl (g_ix _ _ 59 9 1 Tryz.underlying59 szof9 b o n cap j (o + j * 1) _ rfl rfl rfl hjn rfl ?_))
            try simp only [nz]
            refine wl_give rfl (g_ld1 9 _ (b) (o + j * 1) _ rfl (ld9 _ _ _ _ (by rw [Nat.mul_one]; exact cell_on hM hcell)) ?_)
            refine wl_fare kn ?_
            simp (disch := omega) only [fx, pv, kx]
            refine wl_nil (κ34 _ _ ?_)
            refine wp_seq_k fun _ κ35 => wp_seq_k fun _ κ36 => wl_region (wl_fare kn ?_)
            simp (disch := omega) only [fx, pv, kx]
            refine wl_give rfl (g_lenT _ (x) ((((x).size : Nat) : Int)) rfl (rfl) ?_)
            refine wl_fare kn ?_
            simp (disch := omega) only [fx, pv, kx]
            refine wl_nil (κ36 _ _ ?_)
            refine wp_cond_false rfl (wp_skip ?_)
            refine κ35 _ _ (wp_seq_k fun _ κ37 => ?_)
            refine wl_region (wl_fare kn ?_)
            simp (config := { maxSteps := 10000000 }) (disch := omega) only [fx, pv, kx, (hM.get 3 rfl).cell 0 (.int .i64 ((P).st)) rfl]
            refine wl_give rfl (g_call 27 _ _ [.pointer (some ⟨q12, 0, none⟩), .int .i64 ((P).st), .string (x)] (kf27 _ _) rfl ((send_any (show Ms w wr [sn q12 (s) (P) (l), mp kS (w16.heap.size) ((se).map tru), rv p17 (wS s P (d) (se)), blk (w2.heap.size) (plc (P)) 25, blk (w.heap.size) (kc (s)) 23] from (hM.up 2 rfl)) hT (P.st) ⟨by omega, by omega⟩ (x) (1) (x) (G) (T) (K) (0) (1) hS).mono ?_))
            rintro e w38 ⟨rfl, h_⟩
            refine ⟨_, rfl, ?_⟩
            replace hM : Ms w w38 [sn q12 (s) (P) (1), mp kS (w16.heap.size) ((se).map tru), rv p17 (wS s P (d) (se)), blk (w2.heap.size) (plc (P)) 25, blk (w.heap.size) (kc (s)) 23] := h_
            clear h_
            refine wl_fare kn ?_
            simp (config := { maxSteps := 10000000 }) (disch := omega) only [fx, pv, kx]
            refine wl_give rfl (g_alloc 39 (pkc (0) (⟨#[]⟩) (⟨#[]⟩) (0) (zk)) zeroPk fun w39 t_ b_ => ?_)
            replace hM := hM.new t_ b_
            clear t_ b_
            try simp only [nz]
            refine wl_give rfl (g_store_all 39 _ _ (w38.heap.size) (pkc (1) (x) (G) (T) (K)) _ 39 rfl rfl (hM.get 0 rfl) (szPk _ _ _ _ _) (kk2_len _ _ _ _ _ _ _ _ _ _) (one_pkc _ _ _ _ _) fun w40 t_ b_ => ?_)
            replace hM : Ms w w40 [blk (w38.heap.size) (pkc (1) (x) (G) (T) (K)) 39, sn q12 (s) (P) (1), mp kS (w16.heap.size) ((se).map tru), rv p17 (wS s P (d) (se)), blk (w2.heap.size) (plc (P)) 25, blk (w.heap.size) (kc (s)) 23] := hM.put 0 rfl t_ b_
            clear t_ b_
            refine wl_fare kn ?_
            simp (disch := omega) only [fx, pv, kx]
            refine wl_nil (κ37 _ _ ?_)
            refine wp_seq_k fun _ κ41 => wl_region (wl_fare kn ?_)
            simp (disch := omega) only [fx, pv, kx]
            refine wl_give rfl (g_load_all 39 _ (w38.heap.size) (pkc (1) (x) (G) (T) (K)) 39 _ rfl (hM.get 0 rfl) Tryz.underlying39 rfl (szPk _ _ _ _ _) ?_)
            refine wl_fare kn ?_
            simp (config := { maxSteps := 10000000 }) (disch := omega) only [fx, pv, kx, (hM.get 4 rfl).cell 0 (.int .i64 ((P).st)) rfl]
            refine wl_give rfl (g_call 15 _ _ [.pointer (some ⟨p17, 0, none⟩), .agg (pkc (1) (x) (G) (T) (K)).toArray, .int .i64 ((P).st)] (kf15 _ _) rfl ((got_n (show Ms w w40 [rv p17 (wS s P (d) (se)), blk (w38.heap.size) (pkc (1) (x) (G) (T) (K)) 39, sn q12 (s) (P) (1), mp kS (w16.heap.size) ((se).map tru), blk (w2.heap.size) (plc (P)) 25, blk (w.heap.size) (kc (s)) 23] from (hM.up 3 rfl)) hT ho ⟨1, x, G, T, K⟩ P.st 11 (wS s P (d) (se)) hg).mono ?_))
            rintro e w42 ⟨o43, k44, rfl, h_⟩
            refine ⟨_, rfl, ?_⟩
            replace hM : Ms w w42 [rv p17 (wS s P (d) (se)), blk (w38.heap.size) (pkc (1) (x) (G) (T) (K)) 39, sn q12 (s) (P) (1), mp kS (w16.heap.size) ((se).map tru), blk (w2.heap.size) (plc (P)) 25, blk (w.heap.size) (kc (s)) 23] := h_
            clear h_
            refine wl_fare kn ?_
            simp (config := { maxSteps := 10000000 }) (disch := omega) only [fx, pv, kx]
            refine wl_nil (κ41 _ _ ?_)
            refine wp_seq_k fun _ κ45 => wl_region (wl_fare kn ?_)
            simp (disch := omega) only [fx, pv, kx]
            refine wl_nil (κ45 _ _ ?_)
            refine wp_seq_k fun _ κ46 => ?_
            refine wp_block (wp_seq_k fun _ κ47 => ?_)
            refine wl_region (wl_fare kn ?_)
            simp (config := { maxSteps := 10000000 }) (disch := omega) only [fx, pv, kx]
            refine wl_give rfl (g_look keyS Tryz.underlying81 Tryz.zeroValue4 _ _ (x) (.bool true) rfl rfl (show Ms w _ [mp kS (w16.heap.size) ((se).map tru), rv p17 (wS s P (d) (se)), blk (w38.heap.size) (pkc (1) (x) (G) (T) (K)) 39, sn q12 (s) (P) (1), blk (w2.heap.size) (plc (P)) 25, blk (w.heap.size) (kc (s)) 23] from (hM.up 3 rfl)) (by rw [mlook_tru, hx]) ?_)
            refine wl_fare kn ?_
            simp (disch := omega) only [fx, pv, kx]
            refine wl_nil (κ47 _ _ ?_)
            refine wp_cond_true rfl (wl_region (wl_fare kn ?_))
            simp (disch := omega) only [fx, pv, kx]
            refine wl_nil (κ46 _ _ ?_)
            refine wp_seq_k fun _ κ48 => wl_region (wl_fare kn ?_)
            simp (config := { maxSteps := 10000000 }) (disch := omega) only [fx, pv, kx]
            refine wl_give rfl (g_len _ 43 73 (o43) (0) (k44) (0) Tryz.underlying43 rfl (rfl) ?_)
            refine wl_fare kn ?_
            simp (config := { maxSteps := 10000000 }) (disch := omega) only [fx, pv, kx]
            refine wl_give rfl (g_call 22 _ _ [.pointer (some ⟨p17, 0, none⟩)] (kf22 _ _) rfl ((keep1 0 rfl (fun R_ h_ => waits_e h_ ((((se).length : Nat) : Int)) (wS_len s P (d) (se)) (wS_small hle)) hM).mono ?_))
            rintro e w49 ⟨rfl, h_⟩
            refine ⟨_, rfl, ?_⟩
            replace hM : Ms w w49 [rv p17 (wS s P (d) (se)), blk (w38.heap.size) (pkc (1) (x) (G) (T) (K)) 39, sn q12 (s) (P) (1), mp kS (w16.heap.size) ((se).map tru), blk (w2.heap.size) (plc (P)) 25, blk (w.heap.size) (kc (s)) 23] := h_
            clear h_
            refine wl_fare kn ?_
            simp (disch := omega) only [fx, pv, kx]
            refine wl_give rfl (g_mlen Tryz.underlying81 _ ((((se).length : Nat) : Int)) rfl (show Ms w _ [mp kS (w16.heap.size) ((se).map tru), rv p17 (wS s P (d) (se)), blk (w38.heap.size) (pkc (1) (x) (G) (T) (K)) 39, sn q12 (s) (P) (1), blk (w2.heap.size) (plc (P)) 25, blk (w.heap.size) (kc (s)) 23] from (hM.up 3 rfl)) (by rw [List.length_map]) ?_)
            refine wl_fare kn ?_
            simp (config := { maxSteps := 10000000 }) (disch := omega) only [fx, pv, kx]
            refine wl_give rfl (g_call 23 _ _ [.pointer (some ⟨p17, 0, none⟩), .int .i64 (1)] (kf23 _ _) rfl ((keep1 0 rfl (fun R_ h_ => believed_e h_ 1 0 rfl) hM).mono ?_))
            rintro e w50 ⟨rfl, h_⟩
            refine ⟨_, rfl, ?_⟩
            replace hM : Ms w w50 [rv p17 (wS s P (d) (se)), blk (w38.heap.size) (pkc (1) (x) (G) (T) (K)) 39, sn q12 (s) (P) (1), mp kS (w16.heap.size) ((se).map tru), blk (w2.heap.size) (plc (P)) 25, blk (w.heap.size) (kc (s)) 23] := h_
            clear h_
            refine wl_fare kn ?_
            simp (config := { maxSteps := 10000000 }) (disch := omega) only [fx, pv, kx]
            refine wl_give rfl (g_call 21 _ _ [.pointer (some ⟨p17, 0, none⟩)] (kf21 _ _) rfl ((keep1 0 rfl (fun R_ h_ => at_e h_ 0 rfl) hM).mono ?_))
            rintro e w51 ⟨rfl, h_⟩
            refine ⟨_, rfl, ?_⟩
            replace hM : Ms w w51 [rv p17 (wS s P (d) (se)), blk (w38.heap.size) (pkc (1) (x) (G) (T) (K)) 39, sn q12 (s) (P) (1), mp kS (w16.heap.size) ((se).map tru), blk (w2.heap.size) (plc (P)) 25, blk (w.heap.size) (kc (s)) 23] := h_
            clear h_
            refine wl_fare kn ?_
            simp (config := { maxSteps := 10000000 }) (disch := omega) only [fx, pv, kx]
            refine wl_nil (κ48 _ _ ?_)
            refine wp_cond_false rfl (wp_skip ?_)
            refine κ33 _ _ (wl_region (wl_fare kn ?_))
            simp (config := { maxSteps := 10000000 }) (disch := omega) only [fx, pv, kx, (ej.out : IntKind.i64.wrap ((((j : Nat) : Int)) + (1)) = ((j + 1 : Nat) : Int))]
            refine wl_nil ?_
            have h9 := ((((((hM.erase 1).up 4 rfl).up 4 rfl).up 3 rfl).up 3 rfl).up 4 rfl)
            (try simp only [Exit.then, Exit.inBlock, ↓reduceIte, Nat.reduceEqDiff])
            go_roundw
            case rel => exact ⟨j + 1, 1, d, se, by omega, rfl, ⟨⟨by decide, by decide, hI.out.d0, by have := hI.out.d1; omega, hle, hI.out.sz⟩⟩, h9⟩
            case measure => simp [intOf]; omega
          · replace hx : isin x se = false := by simpa using hx
            by_cases h33 : se.length = 3
            · skip
              have hg1 := wS_many (s := s) (d := d) hP hx3 hx h33
              obtain ⟨G, eG⟩ : ∃ G, tgs (kyk s P 1) 1 x = G := ⟨_, rfl⟩
              obtain ⟨T, eT⟩ : ∃ T, pte P 1 = T := ⟨_, rfl⟩
              obtain ⟨K, eK⟩ : ∃ K, (if 0 < T then kyk s P T else zk) = K := ⟨_, rfl⟩
              have hS : Shut (sdA s P l P.st x = ((⟨1, x, G, T, K⟩, 0), 1)) := ⟨by subst eG eT eK; exact hS1⟩
              have hg : got (wS s P (d) (se)) ⟨1, x, G, T, K⟩ P.st = (([], 4), wS s P (d + 1) (se)) := by subst eG eT eK; exact hg1
              clear hS1 hg1 eG eT eK
              refine wp_seq_k fun _ κ52 => wl_region (wl_fare kn ?_)
              simp (disch := omega) only [fx, pv, kx, ((decide_eq_true (by omega)) : decide ((((j : Nat) : Int)) < (((n : Nat) : Int))) = true)]
              refine wl_nil (κ52 _ _ ?_)
              refine wp_seq_k fun _ κ53 => wp_cond_true rfl (wp_skip ?_)
              refine κ53 _ _ (wp_seq_k fun _ κ54 => ?_)
              refine wp_block (wp_seq_k fun _ κ55 => ?_)
              refine wl_region (wl_give rfl (g_ix _ _ 59 9 1 Tryz.underlying59 szof9 b o n cap j (o + j * 1) _ rfl rfl rfl hjn rfl ?_))
              try simp only [nz]
              refine wl_give rfl (g_ld1 9 _ (b) (o + j * 1) _ rfl (ld9 _ _ _ _ (by rw [Nat.mul_one]; exact cell_on hM hcell)) ?_)
              refine wl_fare kn ?_
              simp (disch := omega) only [fx, pv, kx]
              refine wl_nil (κ55 _ _ ?_)
              refine wp_seq_k fun _ κ56 => wp_seq_k fun _ κ57 => wl_region (wl_fare kn ?_)
              simp (disch := omega) only [fx, pv, kx]
              refine wl_give rfl (g_lenT _ (x) ((((x).size : Nat) : Int)) rfl (rfl) ?_)
              refine wl_fare kn ?_
              simp (disch := omega) only [fx, pv, kx]
              refine wl_nil (κ57 _ _ ?_)
              refine wp_cond_false rfl (wp_skip ?_)
              refine κ56 _ _ (wp_seq_k fun _ κ58 => ?_)
              refine wl_region (wl_fare kn ?_)
              simp (config := { maxSteps := 10000000 }) (disch := omega) only [fx, pv, kx, (hM.get 3 rfl).cell 0 (.int .i64 ((P).st)) rfl]
              refine wl_give rfl (g_call 27 _ _ [.pointer (some ⟨q12, 0, none⟩), .int .i64 ((P).st), .string (x)] (kf27 _ _) rfl ((send_any (show Ms w wr [sn q12 (s) (P) (l), mp kS (w16.heap.size) ((se).map tru), rv p17 (wS s P (d) (se)), blk (w2.heap.size) (plc (P)) 25, blk (w.heap.size) (kc (s)) 23] from (hM.up 2 rfl)) hT (P.st) ⟨by omega, by omega⟩ (x) (1) (x) (G) (T) (K) (0) (1) hS).mono ?_))
              rintro e w59 ⟨rfl, h_⟩
              refine ⟨_, rfl, ?_⟩
              replace hM : Ms w w59 [sn q12 (s) (P) (1), mp kS (w16.heap.size) ((se).map tru), rv p17 (wS s P (d) (se)), blk (w2.heap.size) (plc (P)) 25, blk (w.heap.size) (kc (s)) 23] := h_
              clear h_
              refine wl_fare kn ?_
              simp (config := { maxSteps := 10000000 }) (disch := omega) only [fx, pv, kx]
              refine wl_give rfl (g_alloc 39 (pkc (0) (⟨#[]⟩) (⟨#[]⟩) (0) (zk)) zeroPk fun w60 t_ b_ => ?_)
              replace hM := hM.new t_ b_
              clear t_ b_
              try simp only [nz]
              refine wl_give rfl (g_store_all 39 _ _ (w59.heap.size) (pkc (1) (x) (G) (T) (K)) _ 39 rfl rfl (hM.get 0 rfl) (szPk _ _ _ _ _) (kk2_len _ _ _ _ _ _ _ _ _ _) (one_pkc _ _ _ _ _) fun w61 t_ b_ => ?_)
              replace hM : Ms w w61 [blk (w59.heap.size) (pkc (1) (x) (G) (T) (K)) 39, sn q12 (s) (P) (1), mp kS (w16.heap.size) ((se).map tru), rv p17 (wS s P (d) (se)), blk (w2.heap.size) (plc (P)) 25, blk (w.heap.size) (kc (s)) 23] := hM.put 0 rfl t_ b_
              clear t_ b_
              refine wl_fare kn ?_
              simp (disch := omega) only [fx, pv, kx]
              refine wl_nil (κ58 _ _ ?_)
              refine wp_seq_k fun _ κ62 => wl_region (wl_fare kn ?_)
              simp (disch := omega) only [fx, pv, kx]
              refine wl_give rfl (g_load_all 39 _ (w59.heap.size) (pkc (1) (x) (G) (T) (K)) 39 _ rfl (hM.get 0 rfl) Tryz.underlying39 rfl (szPk _ _ _ _ _) ?_)
              refine wl_fare kn ?_
              simp (config := { maxSteps := 10000000 }) (disch := omega) only [fx, pv, kx, (hM.get 4 rfl).cell 0 (.int .i64 ((P).st)) rfl]
              refine wl_give rfl (g_call 15 _ _ [.pointer (some ⟨p17, 0, none⟩), .agg (pkc (1) (x) (G) (T) (K)).toArray, .int .i64 ((P).st)] (kf15 _ _) rfl ((got_n (show Ms w w61 [rv p17 (wS s P (d) (se)), blk (w59.heap.size) (pkc (1) (x) (G) (T) (K)) 39, sn q12 (s) (P) (1), mp kS (w16.heap.size) ((se).map tru), blk (w2.heap.size) (plc (P)) 25, blk (w.heap.size) (kc (s)) 23] from (hM.up 3 rfl)) hT ho ⟨1, x, G, T, K⟩ P.st 4 (wS s P (d + 1) (se)) hg).mono ?_))
              rintro e w63 ⟨o64, k65, rfl, h_⟩
              refine ⟨_, rfl, ?_⟩
              replace hM : Ms w w63 [rv p17 (wS s P (d + 1) (se)), blk (w59.heap.size) (pkc (1) (x) (G) (T) (K)) 39, sn q12 (s) (P) (1), mp kS (w16.heap.size) ((se).map tru), blk (w2.heap.size) (plc (P)) 25, blk (w.heap.size) (kc (s)) 23] := h_
              clear h_
              refine wl_fare kn ?_
              simp (config := { maxSteps := 10000000 }) (disch := omega) only [fx, pv, kx]
              refine wl_nil (κ62 _ _ ?_)
              refine wp_seq_k fun _ κ66 => wl_region (wl_fare kn ?_)
              simp (disch := omega) only [fx, pv, kx]
              refine wl_nil (κ66 _ _ ?_)
              refine wp_seq_k fun _ κ67 => ?_
              refine wp_block (wp_seq_k fun _ κ68 => ?_)
              refine wl_region (wl_fare kn ?_)
              simp (config := { maxSteps := 10000000 }) (disch := omega) only [fx, pv, kx]
              refine wl_give rfl (g_look keyS Tryz.underlying81 Tryz.zeroValue4 _ _ (x) (.bool false) rfl rfl (show Ms w _ [mp kS (w16.heap.size) ((se).map tru), rv p17 (wS s P (d + 1) (se)), blk (w59.heap.size) (pkc (1) (x) (G) (T) (K)) 39, sn q12 (s) (P) (1), blk (w2.heap.size) (plc (P)) 25, blk (w.heap.size) (kc (s)) 23] from (hM.up 3 rfl)) (by rw [mlook_tru, hx]) ?_)
              refine wl_fare kn ?_
              simp (disch := omega) only [fx, pv, kx]
              refine wl_nil (κ68 _ _ ?_)
              refine wp_cond_false rfl (wp_seq_k fun _ κ69 => ?_)
              refine wl_region (wl_fare kn ?_)
              simp (disch := omega) only [fx, pv, kx]
              refine wl_give rfl (g_mlen Tryz.underlying81 _ (((se.length : Nat) : Int)) rfl (show Ms w _ [mp kS (w16.heap.size) ((se).map tru), rv p17 (wS s P (d + 1) (se)), blk (w59.heap.size) (pkc (1) (x) (G) (T) (K)) 39, sn q12 (s) (P) (1), blk (w2.heap.size) (plc (P)) 25, blk (w.heap.size) (kc (s)) 23] from (hM.up 3 rfl)) (by rw [List.length_map]) ?_)
              refine wl_fare kn ?_
              simp (config := { maxSteps := 10000000 }) (disch := omega) only [fx, pv, kx, ((decide_eq_true (by omega)) : decide ((((se.length : Nat) : Int)) = (3)) = true)]
              refine wl_nil (κ69 _ _ ?_)
              refine wp_cond_true rfl (wl_region (wl_fare kn ?_))
              simp (disch := omega) only [fx, pv, kx]
              refine wl_nil (κ67 _ _ ?_)
              refine wp_seq_k fun _ κ70 => wl_region (wl_fare kn ?_)
              simp (config := { maxSteps := 10000000 }) (disch := omega) only [fx, pv, kx]
              refine wl_give rfl (g_len _ 43 73 (o64) (0) (k65) (0) Tryz.underlying43 rfl (rfl) ?_)
              refine wl_fare kn ?_
              simp (config := { maxSteps := 10000000 }) (disch := omega) only [fx, pv, kx]
              refine wl_give rfl (g_call 22 _ _ [.pointer (some ⟨p17, 0, none⟩)] (kf22 _ _) rfl ((keep1 0 rfl (fun R_ h_ => waits_e h_ ((((se).length : Nat) : Int)) (wS_len s P (d + 1) (se)) (wS_small hle)) hM).mono ?_))
              rintro e w71 ⟨rfl, h_⟩
              refine ⟨_, rfl, ?_⟩
              replace hM : Ms w w71 [rv p17 (wS s P (d + 1) (se)), blk (w59.heap.size) (pkc (1) (x) (G) (T) (K)) 39, sn q12 (s) (P) (1), mp kS (w16.heap.size) ((se).map tru), blk (w2.heap.size) (plc (P)) 25, blk (w.heap.size) (kc (s)) 23] := h_
              clear h_
              refine wl_fare kn ?_
              simp (disch := omega) only [fx, pv, kx]
              refine wl_give rfl (g_mlen Tryz.underlying81 _ ((((se).length : Nat) : Int)) rfl (show Ms w _ [mp kS (w16.heap.size) ((se).map tru), rv p17 (wS s P (d + 1) (se)), blk (w59.heap.size) (pkc (1) (x) (G) (T) (K)) 39, sn q12 (s) (P) (1), blk (w2.heap.size) (plc (P)) 25, blk (w.heap.size) (kc (s)) 23] from (hM.up 3 rfl)) (by rw [List.length_map]) ?_)
              refine wl_fare kn ?_
              simp (config := { maxSteps := 10000000 }) (disch := omega) only [fx, pv, kx]
              refine wl_give rfl (g_call 23 _ _ [.pointer (some ⟨p17, 0, none⟩), .int .i64 (1)] (kf23 _ _) rfl ((keep1 0 rfl (fun R_ h_ => believed_e h_ 1 0 rfl) hM).mono ?_))
              rintro e w72 ⟨rfl, h_⟩
              refine ⟨_, rfl, ?_⟩
              replace hM : Ms w w72 [rv p17 (wS s P (d + 1) (se)), blk (w59.heap.size) (pkc (1) (x) (G) (T) (K)) 39, sn q12 (s) (P) (1), mp kS (w16.heap.size) ((se).map tru), blk (w2.heap.size) (plc (P)) 25, blk (w.heap.size) (kc (s)) 23] := h_
              clear h_
              refine wl_fare kn ?_
              simp (config := { maxSteps := 10000000 }) (disch := omega) only [fx, pv, kx]
              refine wl_give rfl (g_call 21 _ _ [.pointer (some ⟨p17, 0, none⟩)] (kf21 _ _) rfl ((keep1 0 rfl (fun R_ h_ => at_e h_ 0 rfl) hM).mono ?_))
              rintro e w73 ⟨rfl, h_⟩
              refine ⟨_, rfl, ?_⟩
              replace hM : Ms w w73 [rv p17 (wS s P (d + 1) (se)), blk (w59.heap.size) (pkc (1) (x) (G) (T) (K)) 39, sn q12 (s) (P) (1), mp kS (w16.heap.size) ((se).map tru), blk (w2.heap.size) (plc (P)) 25, blk (w.heap.size) (kc (s)) 23] := h_
              clear h_
              refine wl_fare kn ?_
              simp (config := { maxSteps := 10000000 }) (disch := omega) only [fx, pv, kx]
              refine wl_nil (κ70 _ _ ?_)
              refine wp_cond_false rfl (wp_skip ?_)
              refine κ54 _ _ (wl_region (wl_fare kn ?_))
              simp (config := { maxSteps := 10000000 }) (disch := omega) only [fx, pv, kx, (ej.out : IntKind.i64.wrap ((((j : Nat) : Int)) + (1)) = ((j + 1 : Nat) : Int))]
              refine wl_nil ?_
              have h9 := ((((((hM.erase 1).up 4 rfl).up 4 rfl).up 3 rfl).up 3 rfl).up 4 rfl)
              (try simp only [Exit.then, Exit.inBlock, ↓reduceIte, Nat.reduceEqDiff])
              go_roundw
              case rel => exact ⟨j + 1, 1, d + 1, se, by omega, rfl, ⟨⟨by decide, by decide, by have := hI.out.d0; omega, by have := hI.out.d1; omega, hle, hI.out.sz⟩⟩, h9⟩
              case measure => simp [intOf]; omega
            · skip
              have hg1 := wS_new (s := s) (d := d) hP hx3 hx (by omega)
              obtain ⟨G, eG⟩ : ∃ G, tgs (kyk s P 1) 1 x = G := ⟨_, rfl⟩
              obtain ⟨T, eT⟩ : ∃ T, pte P 1 = T := ⟨_, rfl⟩
              obtain ⟨K, eK⟩ : ∃ K, (if 0 < T then kyk s P T else zk) = K := ⟨_, rfl⟩
              have hS : Shut (sdA s P l P.st x = ((⟨1, x, G, T, K⟩, 0), 1)) := ⟨by subst eG eT eK; exact hS1⟩
              have hg : got (wS s P (d) (se)) ⟨1, x, G, T, K⟩ P.st = (([], 0), wS s P (d) (se ++ [x])) := by subst eG eT eK; exact hg1
              clear hS1 hg1 eG eT eK
              refine wp_seq_k fun _ κ74 => wl_region (wl_fare kn ?_)
              simp (disch := omega) only [fx, pv, kx, ((decide_eq_true (by omega)) : decide ((((j : Nat) : Int)) < (((n : Nat) : Int))) = true)]
              refine wl_nil (κ74 _ _ ?_)
              refine wp_seq_k fun _ κ75 => wp_cond_true rfl (wp_skip ?_)
              refine κ75 _ _ (wp_seq_k fun _ κ76 => ?_)
              refine wp_block (wp_seq_k fun _ κ77 => ?_)
              refine wl_region (wl_give rfl (g_ix _ _ 59 9 1 Tryz.underlying59 szof9 b o n cap j (o + j * 1) _ rfl rfl rfl hjn rfl ?_))
              try simp only [nz]
              refine wl_give rfl (g_ld1 9 _ (b) (o + j * 1) _ rfl (ld9 _ _ _ _ (by rw [Nat.mul_one]; exact cell_on hM hcell)) ?_)
              refine wl_fare kn ?_
              simp (disch := omega) only [fx, pv, kx]
              refine wl_nil (κ77 _ _ ?_)
              refine wp_seq_k fun _ κ78 => wp_seq_k fun _ κ79 => wl_region (wl_fare kn ?_)
              simp (disch := omega) only [fx, pv, kx]
              refine wl_give rfl (g_lenT _ (x) ((((x).size : Nat) : Int)) rfl (rfl) ?_)
              refine wl_fare kn ?_
              simp (disch := omega) only [fx, pv, kx]
              refine wl_nil (κ79 _ _ ?_)
              refine wp_cond_false rfl (wp_skip ?_)
              refine κ78 _ _ (wp_seq_k fun _ κ80 => ?_)
              refine wl_region (wl_fare kn ?_)
              simp (config := { maxSteps := 10000000 }) (disch := omega) only [fx, pv, kx, (hM.get 3 rfl).cell 0 (.int .i64 ((P).st)) rfl]
              refine wl_give rfl (g_call 27 _ _ [.pointer (some ⟨q12, 0, none⟩), .int .i64 ((P).st), .string (x)] (kf27 _ _) rfl ((send_any (show Ms w wr [sn q12 (s) (P) (l), mp kS (w16.heap.size) ((se).map tru), rv p17 (wS s P (d) (se)), blk (w2.heap.size) (plc (P)) 25, blk (w.heap.size) (kc (s)) 23] from (hM.up 2 rfl)) hT (P.st) ⟨by omega, by omega⟩ (x) (1) (x) (G) (T) (K) (0) (1) hS).mono ?_))
              rintro e w81 ⟨rfl, h_⟩
              refine ⟨_, rfl, ?_⟩
              replace hM : Ms w w81 [sn q12 (s) (P) (1), mp kS (w16.heap.size) ((se).map tru), rv p17 (wS s P (d) (se)), blk (w2.heap.size) (plc (P)) 25, blk (w.heap.size) (kc (s)) 23] := h_
              clear h_
              refine wl_fare kn ?_
              simp (config := { maxSteps := 10000000 }) (disch := omega) only [fx, pv, kx]
              refine wl_give rfl (g_alloc 39 (pkc (0) (⟨#[]⟩) (⟨#[]⟩) (0) (zk)) zeroPk fun w82 t_ b_ => ?_)
              replace hM := hM.new t_ b_
              clear t_ b_
              try simp only [nz]
              refine wl_give rfl (g_store_all 39 _ _ (w81.heap.size) (pkc (1) (x) (G) (T) (K)) _ 39 rfl rfl (hM.get 0 rfl) (szPk _ _ _ _ _) (kk2_len _ _ _ _ _ _ _ _ _ _) (one_pkc _ _ _ _ _) fun w83 t_ b_ => ?_)
              replace hM : Ms w w83 [blk (w81.heap.size) (pkc (1) (x) (G) (T) (K)) 39, sn q12 (s) (P) (1), mp kS (w16.heap.size) ((se).map tru), rv p17 (wS s P (d) (se)), blk (w2.heap.size) (plc (P)) 25, blk (w.heap.size) (kc (s)) 23] := hM.put 0 rfl t_ b_
              clear t_ b_
              refine wl_fare kn ?_
              simp (disch := omega) only [fx, pv, kx]
              refine wl_nil (κ80 _ _ ?_)
              refine wp_seq_k fun _ κ84 => wl_region (wl_fare kn ?_)
              simp (disch := omega) only [fx, pv, kx]
              refine wl_give rfl (g_load_all 39 _ (w81.heap.size) (pkc (1) (x) (G) (T) (K)) 39 _ rfl (hM.get 0 rfl) Tryz.underlying39 rfl (szPk _ _ _ _ _) ?_)
              refine wl_fare kn ?_
              simp (config := { maxSteps := 10000000 }) (disch := omega) only [fx, pv, kx, (hM.get 4 rfl).cell 0 (.int .i64 ((P).st)) rfl]
              refine wl_give rfl (g_call 15 _ _ [.pointer (some ⟨p17, 0, none⟩), .agg (pkc (1) (x) (G) (T) (K)).toArray, .int .i64 ((P).st)] (kf15 _ _) rfl ((got_n (show Ms w w83 [rv p17 (wS s P (d) (se)), blk (w81.heap.size) (pkc (1) (x) (G) (T) (K)) 39, sn q12 (s) (P) (1), mp kS (w16.heap.size) ((se).map tru), blk (w2.heap.size) (plc (P)) 25, blk (w.heap.size) (kc (s)) 23] from (hM.up 3 rfl)) hT ho ⟨1, x, G, T, K⟩ P.st 0 (wS s P (d) (se ++ [x])) hg).mono ?_))
              rintro e w85 ⟨o86, k87, rfl, h_⟩
              refine ⟨_, rfl, ?_⟩
              replace hM : Ms w w85 [rv p17 (wS s P (d) (se ++ [x])), blk (w81.heap.size) (pkc (1) (x) (G) (T) (K)) 39, sn q12 (s) (P) (1), mp kS (w16.heap.size) ((se).map tru), blk (w2.heap.size) (plc (P)) 25, blk (w.heap.size) (kc (s)) 23] := h_
              clear h_
              refine wl_fare kn ?_
              simp (config := { maxSteps := 10000000 }) (disch := omega) only [fx, pv, kx]
              refine wl_nil (κ84 _ _ ?_)
              refine wp_seq_k fun _ κ88 => wl_region (wl_fare kn ?_)
              simp (disch := omega) only [fx, pv, kx]
              refine wl_nil (κ88 _ _ ?_)
              refine wp_seq_k fun _ κ89 => ?_
              refine wp_block (wp_seq_k fun _ κ90 => ?_)
              refine wl_region (wl_fare kn ?_)
              simp (config := { maxSteps := 10000000 }) (disch := omega) only [fx, pv, kx]
              refine wl_give rfl (g_look keyS Tryz.underlying81 Tryz.zeroValue4 _ _ (x) (.bool false) rfl rfl (show Ms w _ [mp kS (w16.heap.size) ((se).map tru), rv p17 (wS s P (d) (se ++ [x])), blk (w81.heap.size) (pkc (1) (x) (G) (T) (K)) 39, sn q12 (s) (P) (1), blk (w2.heap.size) (plc (P)) 25, blk (w.heap.size) (kc (s)) 23] from (hM.up 3 rfl)) (by rw [mlook_tru, hx]) ?_)
              refine wl_fare kn ?_
              simp (disch := omega) only [fx, pv, kx]
              refine wl_nil (κ90 _ _ ?_)
              refine wp_cond_false rfl (wp_seq_k fun _ κ91 => ?_)
              refine wl_region (wl_fare kn ?_)
              simp (disch := omega) only [fx, pv, kx]
              refine wl_give rfl (g_mlen Tryz.underlying81 _ (((se.length : Nat) : Int)) rfl (show Ms w _ [mp kS (w16.heap.size) ((se).map tru), rv p17 (wS s P (d) (se ++ [x])), blk (w81.heap.size) (pkc (1) (x) (G) (T) (K)) 39, sn q12 (s) (P) (1), blk (w2.heap.size) (plc (P)) 25, blk (w.heap.size) (kc (s)) 23] from (hM.up 3 rfl)) (by rw [List.length_map]) ?_)
              refine wl_fare kn ?_
              simp (config := { maxSteps := 10000000 }) (disch := omega) only [fx, pv, kx, ((decide_eq_false (by omega)) : decide ((((se.length : Nat) : Int)) = (3)) = false)]
              refine wl_nil (κ91 _ _ ?_)
              refine wp_cond_false rfl (wl_region (wl_fare kn ?_))
              simp (config := { maxSteps := 10000000 }) (disch := omega) only [fx, pv, kx]
              refine wl_give rfl (g_mup keyS Tryz.underlying81 _ _ _ (x) (.bool true) rfl rfl rfl (show Ms w w85 [mp kS (w16.heap.size) ((se).map tru), rv p17 (wS s P (d) (se ++ [x])), blk (w81.heap.size) (pkc (1) (x) (G) (T) (K)) 39, sn q12 (s) (P) (1), blk (w2.heap.size) (plc (P)) 25, blk (w.heap.size) (kc (s)) 23] from (hM.up 3 rfl)) fun w92 h_ => ?_)
              replace hM : Ms w w92 [mp kS (w16.heap.size) (mput ((se).map tru) (x) (.bool true)), rv p17 (wS s P (d) (se ++ [x])), blk (w81.heap.size) (pkc (1) (x) (G) (T) (K)) 39, sn q12 (s) (P) (1), blk (w2.heap.size) (plc (P)) 25, blk (w.heap.size) (kc (s)) 23] := h_
              clear h_
              try simp only [nz]
              refine wl_nil (κ89 _ _ ?_)
              refine wp_seq_k fun _ κ93 => wl_region (wl_fare kn ?_)
              simp (config := { maxSteps := 10000000 }) (disch := omega) only [fx, pv, kx]
              refine wl_give rfl (g_len _ 43 73 (o86) (0) (k87) (0) Tryz.underlying43 rfl (rfl) ?_)
              refine wl_fare kn ?_
              simp (config := { maxSteps := 10000000 }) (disch := omega) only [fx, pv, kx]
              refine wl_give rfl (g_call 22 _ _ [.pointer (some ⟨p17, 0, none⟩)] (kf22 _ _) rfl ((keep1 1 rfl (fun R_ h_ => waits_e h_ ((((se ++ [x]).length : Nat) : Int)) (wS_len s P (d) (se ++ [x])) (wS_small (by simp; omega))) hM).mono ?_))
              rintro e w94 ⟨rfl, h_⟩
              refine ⟨_, rfl, ?_⟩
              replace hM : Ms w w94 [mp kS (w16.heap.size) (mput ((se).map tru) (x) (.bool true)), rv p17 (wS s P (d) (se ++ [x])), blk (w81.heap.size) (pkc (1) (x) (G) (T) (K)) 39, sn q12 (s) (P) (1), blk (w2.heap.size) (plc (P)) 25, blk (w.heap.size) (kc (s)) 23] := h_
              clear h_
              refine wl_fare kn ?_
              simp (disch := omega) only [fx, pv, kx]
              refine wl_give rfl (g_mlen Tryz.underlying81 _ ((((se ++ [x]).length : Nat) : Int)) rfl hM (by rw [mput_tru hx, List.length_map]) ?_)
              refine wl_fare kn ?_
              simp (config := { maxSteps := 10000000 }) (disch := omega) only [fx, pv, kx]
              refine wl_give rfl (g_call 23 _ _ [.pointer (some ⟨p17, 0, none⟩), .int .i64 (1)] (kf23 _ _) rfl ((keep1 1 rfl (fun R_ h_ => believed_e h_ 1 0 rfl) hM).mono ?_))
              rintro e w95 ⟨rfl, h_⟩
              refine ⟨_, rfl, ?_⟩
              replace hM : Ms w w95 [mp kS (w16.heap.size) (mput ((se).map tru) (x) (.bool true)), rv p17 (wS s P (d) (se ++ [x])), blk (w81.heap.size) (pkc (1) (x) (G) (T) (K)) 39, sn q12 (s) (P) (1), blk (w2.heap.size) (plc (P)) 25, blk (w.heap.size) (kc (s)) 23] := h_
              clear h_
              refine wl_fare kn ?_
              simp (config := { maxSteps := 10000000 }) (disch := omega) only [fx, pv, kx]
              refine wl_give rfl (g_call 21 _ _ [.pointer (some ⟨p17, 0, none⟩)] (kf21 _ _) rfl ((keep1 1 rfl (fun R_ h_ => at_e h_ 0 rfl) hM).mono ?_))
              rintro e w96 ⟨rfl, h_⟩
              refine ⟨_, rfl, ?_⟩
              replace hM : Ms w w96 [mp kS (w16.heap.size) (mput ((se).map tru) (x) (.bool true)), rv p17 (wS s P (d) (se ++ [x])), blk (w81.heap.size) (pkc (1) (x) (G) (T) (K)) 39, sn q12 (s) (P) (1), blk (w2.heap.size) (plc (P)) 25, blk (w.heap.size) (kc (s)) 23] := h_
              clear h_
              refine wl_fare kn ?_
              simp (config := { maxSteps := 10000000 }) (disch := omega) only [fx, pv, kx]
              refine wl_nil (κ93 _ _ ?_)
              refine wp_cond_false rfl (wp_skip ?_)
              refine κ76 _ _ (wl_region (wl_fare kn ?_))
              simp (config := { maxSteps := 10000000 }) (disch := omega) only [fx, pv, kx, (ej.out : IntKind.i64.wrap ((((j : Nat) : Int)) + (1)) = ((j + 1 : Nat) : Int))]
              refine wl_nil ?_
              have h9 := ((((((hM.erase 2).up 4 rfl).up 4 rfl).up 4 rfl).up 4 rfl).up 4 rfl)
              rw [mput_tru hx] at h9
              (try simp only [Exit.then, Exit.inBlock, ↓reduceIte, Nat.reduceEqDiff])
              go_roundw
              case rel => exact ⟨j + 1, 1, d, se ++ [x], by omega, rfl, ⟨⟨by decide, by decide, hI.out.d0, by have := hI.out.d1; omega, by simp; omega, fun v hv => by rcases List.mem_append.1 hv with h | h; exact hI.out.sz v h; obtain rfl := List.mem_singleton.1 h; exact hx3⟩⟩, h9⟩
              case measure => simp [intOf]; omega
      · skip
        refine wp_seq_k fun _ κ97 => wl_region (wl_fare kn ?_)
        simp (disch := omega) only [fx, pv, kx, ((decide_eq_false (by omega)) : decide ((((j : Nat) : Int)) < (((n : Nat) : Int))) = false)]
        refine wl_nil (κ97 _ _ ?_)
        refine wp_seq_k fun _ κ98 => wp_cond_false rfl ?_
        refine wp_exit (κ22 _ _ ?_)
        refine wp_seq_k fun _ κ99 => wl_region (wl_fare kn ?_)
        simp (disch := omega) only [fx, pv, kx]
        refine wl_nil (κ99 _ _ ?_)
        refine wp_ret ?_
        go_ret
        exact ⟨rfl, hM.below⟩
theorem walk (l0 : List UInt8) (h0 : l0.length = 32) (P : Pl) (ao : Option Addr) (n cap : Nat) (w : World) (hT : Tabs w) (hp : PIn P) (hc : LV OkS w ao n) (hn : n ≤ cap) (hcap : cap ≤ maxLen) : Calls Tryz.prog 7 #[.agg (bc l0).toArray, .agg (plc P).toArray, .slice ao n cap] w fun e w' => e = .returned (.bool true) ∧ Below w.heap.size w w' := by
  by_cases hP : POk P
  · by_cases h1 : 16 < P.ct
    · exact walk_2 ⟨l0, h0⟩ P ao n cap w hT hP h1
    · by_cases h2 : 20 < ((n : Nat) : Int)
      · exact walk_3 ⟨l0, h0⟩ P ao n cap w hT hP h1 h2
      · exact walk_4 ⟨l0, h0⟩ P ao n cap w hT hP h1 h2 hc
  · exact walk_1 ⟨l0, h0⟩ P ao n cap w hT hP
end Go.Proofs.YtcclcemdodoiiaaGreatDoor.receiverWaits
