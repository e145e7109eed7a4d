/- ReceiverMissed: the walk. -/
import Derived.Test.YtcclcemdodoiiaaGreatDoorQRcM3
import Derived.Test.YtcclcemdodoiiaaGreatDoorQAwake
import Derived.Test.YtcclcemdodoiiaaGreatDoorQArgs
import Derived.Test.YtcclcemdodoiiaaGreatDoorQMiM
import Derived.WalkKit
import Derived.WalkSpells
import Derived.WalkLawsBesides
namespace Go.Proofs.YtcclcemdodoiiaaGreatDoor.receiverMissed
set_option maxRecDepth 10000
open Go Go.RowKit
set_option linter.unusedVariables false
set_option linter.unusedSimpArgs false

theorem g_sneq {P : Program} {a : Act} {w : World} {dst : Option Tmp} {ty yt : TypeId} {pos : String} {aft : Array Edge} {gd : Option (Nat × Bool)} {K : Value → World → Prop} (t : TypeId) (x y : Operand) (s : ByteArray) (hx : a.eval x = .string s) (hy : a.eval y = .string s) (hk : K (.bool false) w) : gives P ⟨dst, .binOp .neq t x y yt, ty, pos, aft, gd⟩ a w K :=
  g_val (.bool false) w (by simp [execOp, hx, hy, eqGuard, binOp, Op.stringOp]) hk
theorem zeroTh : ∀ w, (zeroValue 73).run Tryz.prog w = .ok (.agg (tc (0, ⟨#[]⟩)).toArray) w := by intro w; kernel_rfl
theorem one_tc (t : Thg) : ∀ z ∈ tc t, z.oneCell' = true := by
  intro z h
  simp only [tc, List.mem_cons, List.not_mem_nil, or_false] at h
  rcases h with rfl | rfl <;> rfl
open Classical in
theorem pick {w : World} {ao : Option Addr} {n : Nat} (h : LV OkB w ao n) : ∃ C : Nat → Bool, (∀ k, k < n → ∃ b o, ao = some ⟨b, o, none⟩ ∧ w.cell? ⟨b, o + k, none⟩ = some (.bool (C k))) ∧ ∀ k, n ≤ k → C k = false := by
  refine ⟨fun k => if k < n then decide (∃ b o, ao = some ⟨b, o, none⟩ ∧ w.cell? ⟨b, o + k, none⟩ = some (.bool true)) else false, fun k hk => ?_, fun k hk => if_neg (by omega)⟩
  obtain ⟨b, o, v, e, hc, x, rfl⟩ := h k hk
  refine ⟨b, o, e, ?_⟩
  show w.cell? _ = some (.bool (if k < n then _ else false))
  rw [if_pos hk, hc]
  cases x with
  | true => rw [decide_eq_true ⟨b, o, e, hc⟩]
  | false =>
    rw [decide_eq_false]
    rintro ⟨b2, o2, e2, h2⟩
    rw [e] at e2
    cases e2
    rw [hc] at h2
    cases h2
theorem sel_yes {C : Nat → Bool} {k : Nat} (h : C (k + 1) = true) : (sel C 0 (k + 1)).length = (sel C 0 k).length + 1 := by
  rw [sel_step (Nat.zero_le k), if_pos h]; simp
theorem sel_no {C : Nat → Bool} {k : Nat} (h : C (k + 1) = false) : (sel C 0 (k + 1)).length = (sel C 0 k).length := by
  rw [sel_step (Nat.zero_le k), h]; simp
theorem sel_at {C : Nat → Bool} {m p k : Nat} {t : ByteArray} {L : List Thg} (hL : (sel C m p).map (hm t) = L) (hk : k < L.length) : ∃ x : Nat, L[k]? = some (((x : Nat) : Int), t) ∧ m < x ∧ x ≤ p ∧ C x = true := by
  subst hL
  rw [List.length_map] at hk
  refine ⟨(sel C m p)[k], ?_, ?_⟩
  · rw [List.getElem?_map, List.getElem?_eq_getElem hk]; rfl
  · have h := sel_mem.1 (List.getElem_mem hk)
    exact ⟨h.1.1, h.1.2, h.2⟩
set_option maxHeartbeats 4000000 in
theorem walk_1 (s : Ky) (P : Pl) (ao : Option Addr) (n cap : Nat) (w : World) (hT : Tabs w) (hP : ¬ POk P) : Calls Tryz.prog 8 #[.agg (kc s).toArray, .agg (plc P).toArray, .slice ao n cap] w fun e w' => e = .returned (.bool true) ∧ Below w.heap.size w w' := by
  have hM := Ms.refl w
  go_enter Tryz.func8, Tryz.ntmps8
  refine wp_seq_k fun _ κ1 => wl_region (wl_give rfl (g_box 23 _ (kc (s)) rfl ?_))
  intro w2 t_ b_
  replace hM := hM.new t_ b_
  clear t_ b_
  try simp only [nz]
  refine wl_give rfl (g_box 25 _ (plc (P)) rfl fun w3 t_ b_ => ?_)
  replace hM := hM.new t_ b_
  clear t_ b_
  refine wl_fare kn ?_
  simp (config := { maxSteps := 10000000 }) (disch := omega) only [fx, pv, kx]
  refine wl_nil (κ1 _ _ ?_)
  refine wp_seq_k fun _ κ4 => wp_seq_k fun _ κ5 => wl_region (wl_give rfl (g_cM hM (kf10 _ _) (awake_any w3 (hM.tabs hT)) rfl ?_))
  intro w6 hM
  refine wl_fare kn ?_
  simp (config := { maxSteps := 10000000 }) (disch := omega) only [fx, pv, kx]
  refine wl_nil (κ5 _ _ ?_)
  refine wp_cond_false rfl (wp_skip ?_)
  refine κ4 _ _ (wp_seq_k fun _ κ7 => ?_)
  refine wp_seq_k fun _ κ8 => wl_region (wl_give rfl (g_load_all 25 _ (w2.heap.size) (plc (P)) 25 _ rfl (hM.get 0 rfl) Tryz.underlying25 rfl (szPl _) ?_))
  try simp only [nz]
  refine wl_give rfl (g_cM hM (kf11 _ _) (may_no P w6 hP) rfl fun w9 hM => wl_fare kn ?_)
  simp (config := { maxSteps := 10000000 }) (disch := omega) only [fx, pv, kx]
  refine wl_nil (κ8 _ _ ?_)
  refine wp_cond_true rfl (wp_seq_k fun _ κ10 => ?_)
  refine wl_region (wl_fare kn ?_)
  simp (config := { maxSteps := 10000000 }) (disch := omega) only [fx, pv, kx]
  refine wl_nil (κ10 _ _ ?_)
  refine wp_ret ?_
  go_ret
  exact ⟨rfl, hM.below⟩
set_option maxHeartbeats 4000000 in
theorem walk_2 (s : Ky) (P : Pl) (ao : Option Addr) (n cap : Nat) (w : World) (hT : Tabs w) (hP : POk P) (h1 : 16 < P.ct) : Calls Tryz.prog 8 #[.agg (kc s).toArray, .agg (plc P).toArray, .slice ao n cap] w fun e w' => e = .returned (.bool true) ∧ Below w.heap.size w w' := by
  have hM := Ms.refl w
  go_enter Tryz.func8, Tryz.ntmps8
  refine wp_seq_k fun _ κ1 => wl_region (wl_give rfl (g_box 23 _ (kc (s)) rfl ?_))
  intro w2 t_ b_
  replace hM := hM.new t_ b_
  clear t_ b_
  try simp only [nz]
  refine wl_give rfl (g_box 25 _ (plc (P)) rfl fun w3 t_ b_ => ?_)
  replace hM := hM.new t_ b_
  clear t_ b_
  refine wl_fare kn ?_
  simp (config := { maxSteps := 10000000 }) (disch := omega) only [fx, pv, kx]
  refine wl_nil (κ1 _ _ ?_)
  refine wp_seq_k fun _ κ4 => wp_seq_k fun _ κ5 => wl_region (wl_give rfl (g_cM hM (kf10 _ _) (awake_any w3 (hM.tabs hT)) rfl ?_))
  intro w6 hM
  refine wl_fare kn ?_
  simp (config := { maxSteps := 10000000 }) (disch := omega) only [fx, pv, kx]
  refine wl_nil (κ5 _ _ ?_)
  refine wp_cond_false rfl (wp_skip ?_)
  refine κ4 _ _ (wp_seq_k fun _ κ7 => ?_)
  refine wp_seq_k fun _ κ8 => wl_region (wl_give rfl (g_load_all 25 _ (w2.heap.size) (plc (P)) 25 _ rfl (hM.get 0 rfl) Tryz.underlying25 rfl (szPl _) ?_))
  try simp only [nz]
  refine wl_give rfl (g_cM hM (kf11 _ _) (may_yes P w6 hP) rfl fun w9 hM => wl_fare kn ?_)
  simp (config := { maxSteps := 10000000 }) (disch := omega) only [fx, pv, kx, (hM.get 0 rfl).cell 3 (.int .i64 ((P).ct)) rfl]
  refine wl_nil (κ8 _ _ ?_)
  refine wp_cond_true rfl (wp_seq_k fun _ κ10 => ?_)
  refine wl_region (wl_fare kn ?_)
  simp (config := { maxSteps := 10000000 }) (disch := omega) only [fx, pv, kx]
  refine wl_nil (κ10 _ _ ?_)
  refine wp_ret ?_
  go_ret
  exact ⟨rfl, hM.below⟩
set_option maxHeartbeats 4000000 in
theorem walk_3 (s : Ky) (P : Pl) (ao : Option Addr) (n cap : Nat) (w : World) (hT : Tabs w) (hP : POk P) (h1 : ¬ 16 < P.ct) (hn : n ≤ 9223372036854775807) (C : Nat → Bool) (hC : ∀ k, k < n → ∃ b o, ao = some ⟨b, o, none⟩ ∧ w.cell? ⟨b, o + k, none⟩ = some (.bool (C k))) (hC2 : ∀ k, n ≤ k → C k = false) : Calls Tryz.prog 8 #[.agg (kc s).toArray, .agg (plc P).toArray, .slice ao n cap] w fun e w' => e = .returned (.bool true) ∧ Below w.heap.size w w' := by
  have hM := Ms.refl w
  go_enter Tryz.func8, Tryz.ntmps8
  refine wp_seq_k fun _ κ1 => wl_region (wl_give rfl (g_box 23 _ (kc (s)) rfl ?_))
  intro w2 t_ b_
  replace hM := hM.new t_ b_
  clear t_ b_
  try simp only [nz]
  refine wl_give rfl (g_box 25 _ (plc (P)) rfl fun w3 t_ b_ => ?_)
  replace hM := hM.new t_ b_
  clear t_ b_
  refine wl_fare kn ?_
  simp (config := { maxSteps := 10000000 }) (disch := omega) only [fx, pv, kx]
  refine wl_nil (κ1 _ _ ?_)
  refine wp_seq_k fun _ κ4 => wp_seq_k fun _ κ5 => wl_region (wl_give rfl (g_cM hM (kf10 _ _) (awake_any w3 (hM.tabs hT)) rfl ?_))
  intro w6 hM
  refine wl_fare kn ?_
  simp (config := { maxSteps := 10000000 }) (disch := omega) only [fx, pv, kx]
  refine wl_nil (κ5 _ _ ?_)
  refine wp_cond_false rfl (wp_skip ?_)
  refine κ4 _ _ (wp_seq_k fun _ κ7 => ?_)
  refine wp_seq_k fun _ κ8 => wl_region (wl_give rfl (g_load_all 25 _ (w2.heap.size) (plc (P)) 25 _ rfl (hM.get 0 rfl) Tryz.underlying25 rfl (szPl _) ?_))
  try simp only [nz]
  refine wl_give rfl (g_cM hM (kf11 _ _) (may_yes P w6 hP) rfl fun w9 hM => wl_fare kn ?_)
  simp (config := { maxSteps := 10000000 }) (disch := omega) only [fx, pv, kx, (hM.get 0 rfl).cell 3 (.int .i64 ((P).ct)) rfl]
  refine wl_nil (κ8 _ _ ?_)
  refine wp_cond_false rfl (wp_skip ?_)
  refine κ7 _ _ (wp_seq_k fun _ κ10 => ?_)
  refine wl_region (wl_give rfl (g_load_all 23 _ (w.heap.size) (kc (s)) 23 _ rfl (hM.get 1 rfl) Tryz.underlying23 rfl (szK _) ?_))
  try simp only [nz]
  refine wl_give rfl (g_load_all 25 _ (w2.heap.size) (plc (P)) 25 _ rfl (hM.get 0 rfl) Tryz.underlying25 rfl (szPl _) ?_)
  try simp only [nz]
  refine wl_give rfl (g_call 25 _ _ [.agg (kc (s)).toArray, .agg (plc (P)).toArray] (kf25 _ _) rfl ((snew_any (s) (P) w w9 _ hM hT hP).mono ?_))
  rintro e w11 ⟨q12, rfl, h_⟩
  refine ⟨_, rfl, ?_⟩
  replace hM : Ms w w11 [sn q12 (s) (P) (0), blk (w2.heap.size) (plc (P)) 25, blk (w.heap.size) (kc (s)) 23] := h_
  clear h_
  refine wl_fare kn ?_
  simp (config := { maxSteps := 10000000 }) (disch := omega) only [fx, pv, kx]
  refine wl_nil (κ10 _ _ ?_)
  refine wp_seq_k fun _ κ13 => wp_seq_k fun _ κ14 => wl_region (wl_fare kn ?_)
  simp (config := { maxSteps := 10000000 }) (disch := omega) only [fx, pv, kx]
  refine wl_give rfl (g_peqS _ ((some ⟨q12, 0, none⟩)) false rfl rfl ?_)
  try simp only [nz]
  refine wl_nil (κ14 _ _ ?_)
  refine wp_cond_false rfl (wp_skip ?_)
  refine κ13 _ _ (wp_seq_k fun _ κ15 => ?_)
  refine wp_region_steps (by kernel_rfl) (by kernel_rfl) [3] [0, 0, 0, 0, 1, 1, 1, 1, 1] [1, 0, 0, 1, 1, 1, 1, 1, 1] (by kernel_rfl) (Pm := Nat) (fun π => [.pointer (some ⟨q12, 0, none⟩), .agg (kc (kyk s P 0)).toArray, .agg (plc (P)).toArray, .tuple #[.pointer (some ⟨π, 0, none⟩), .int .i64 (0)], .tuple #[.pointer (some ⟨π, 0, none⟩), .int .i64 (0)], .pointer (some ⟨π, 0, none⟩), .int .i64 (0), .pointer (some ⟨π, 0, none⟩), .int .i64 (0)]) (fun _ => by rfl) (fun j_ π wx => match j_ with | 0 => Ms w wx [sn q12 (s) (P) (0), blk (w2.heap.size) (plc (P)) 25, blk (w.heap.size) (kc (s)) 23] | _ => Ms w wx [rv π (mS s P C ⟨#[116, 101, 120, 116]⟩ (0) (0)), sn q12 (s) (P) (0), blk (w2.heap.size) (plc (P)) 25, blk (w.heap.size) (kc (s)) 23]) (0) hM.drew ?_ ?_ ?_
  · intro j_ k_ o_ hj_ ho_ π wx hM
    rcases j_ with _ | j_
    · obtain rfl := Option.some.inj hj_
      cases so ho_
      simp only [fullL, Act.put, st_a, st_s, st_0]
      change Ms _ _ _ at hM
      exact gw rfl (g_call 12 _ _ [.agg (kc (kyk s P 0)).toArray, .agg (plc (P)).toArray, .int .i64 (16), .int .i64 (2), .int .i64 (16)] (kf12 _ _) rfl ((rcnew_any (kyk s P 0) P 16 2 16 hM hP (by decide) (by decide) (by decide)).mono (fun e w' ⟨g_0, h1_, h2_⟩ => ⟨_, h1_, ⟨(g_0), rfl, fun i h1 h2 => by rcases i with _ | _ | _ | _ | _ | _ | _ | _ | _ | i <;> first | rfl | trivial | exact absurd rfl h2 | exact absurd h1 (by decide), h2_⟩⟩)))
    · simp at hj_
  · intro i_ o_ ho_ hi_ j_ hd_ hh_ hj_ π wx hM
    simp only [fullL, Act.put, st_a, st_s, st_0]
    rcases i_ with _ | _ | _ | _ | _ | _ | _ | _ | _ | i_
    · cases so ho_
      exact gw rfl (g_move _ _ rfl ⟨rfl, hM⟩)
    · cases so ho_
      rcases j_ with _ | _ | j_
      · change Ms _ _ _ at hM
        exact gw rfl (g_call 26 _ _ [.pointer (some ⟨q12, 0, none⟩)] (kf26 _ _) rfl ((known_v hM (kyk s P 0) ⟨rfl⟩).mono (fun _ _ ⟨h1_, h2_⟩ => ⟨_, h1_, rfl, hM.call h2_⟩)))
      · exact absurd hh_ (by decide)
      · exact absurd hj_ (by simp)
    · cases so ho_
      rcases j_ with _ | _ | j_
      · change Ms _ _ _ at hM
        exact gw rfl (g_load_all 25 _ (w2.heap.size) (plc (P)) 25 _ rfl (hM.get 1 rfl) Tryz.underlying25 rfl (szPl _) ⟨rfl, hM⟩)
      · exact absurd hh_ (by decide)
      · exact absurd hj_ (by simp)
    · exact absurd (by decide) hi_
    · cases so ho_
      exact gw rfl (g_move _ _ rfl ⟨rfl, hM⟩)
    · cases so ho_
      exact gw rfl (g_extract _ _ _ _ rfl rfl ⟨rfl, hM⟩)
    · cases so ho_
      exact gw rfl (g_extract _ _ _ _ rfl rfl ⟨rfl, hM⟩)
    · cases so ho_
      exact gw rfl (g_assign _ _ rfl ⟨rfl, hM⟩)
    · cases so ho_
      exact gw rfl (g_assign _ _ rfl ⟨rfl, hM⟩)
    · simp at ho_
  · simp only [fullL, Act.put, st_a, st_s, st_0]
    rintro p17 w16 hM
    replace hM : Ms w w16 [rv p17 (mS s P C ⟨#[116, 101, 120, 116]⟩ (0) (0)), sn q12 (s) (P) (0), blk (w2.heap.size) (plc (P)) 25, blk (w.heap.size) (kc (s)) 23] := hM
    refine κ15 _ _ (wp_seq_k fun _ κ18 => ?_)
    refine wp_seq_k fun _ κ19 => wl_region (wl_fare kn ?_)
    simp (config := { maxSteps := 10000000 }) (disch := omega) only [fx, pv, kx]
    refine wl_give rfl (g_peqC _ ((some ⟨p17, 0, none⟩)) false rfl rfl ?_)
    try simp only [nz]
    refine wl_nil (κ19 _ _ ?_)
    refine wp_cond_false rfl (wp_skip ?_)
    refine κ18 _ _ (wp_seq_k fun _ κ20 => ?_)
    refine wl_region (wl_fare kn ?_)
    simp (config := { maxSteps := 10000000 }) (disch := omega) only [fx, pv, kx]
    refine wl_nil (κ20 _ _ ?_)
    refine wp_seq_k fun _ κ21 => wp_seq_k fun _ κ22 => wl_region (wl_fare kn ?_)
    simp (config := { maxSteps := 10000000 }) (disch := omega) only [fx, pv, kx]
    refine wl_nil (κ22 _ _ ?_)
    refine wp_block ?_
    go_loopw [11, 12] (fun v11 v12 wr => ∃ (j m : Nat), ((j : Nat) : Int) ≤ P.ct ∧ ((m : Nat) : Int) ≤ max (((j : Nat) : Int) - P.dl) 0 ∧ v11 = .int .i64 (((sel C 0 m).length : Nat) : Int) ∧ v12 = .int .i64 ((j + 1 : Nat) : Int) ∧ Ms w wr [rv p17 (mS s P C ⟨#[116, 101, 120, 116]⟩ (m) (j)), sn q12 (s) (P) (((j : Nat) : Int)), blk (w2.heap.size) (plc (P)) 25, blk (w.heap.size) (kc (s)) 23]) (fun _ v12 _ => (P.ct + 1 - intOf v12).toNat)
    case atStart => exact ⟨0, 0, by show (0 : Int) ≤ P.ct; omega, by omega, rfl, rfl, hM⟩
    case round =>
      clear hM
      obtain ⟨j, m, hj, hm1, rfl, rfl, hM⟩ := hrel
      by_cases hji : ((j + 1 : Nat) : Int) ≤ P.ct
      · skip
        have ej : Shut (IntKind.i64.wrap (((j + 1 : Nat) : Int) + 1) = ((j + 1 + 1 : Nat) : Int)) := ⟨by rw [wrap_id _ (by omega) (by omega)]; omega⟩
        have hX : Shut (pbg P ((j + 1 : Nat) : Int) = (bgn P ((j + 1 : Nat) : Int), 0)) := ⟨by unfold pbg; rw [if_pos ⟨hP, by omega, by omega⟩]⟩
        have hb := bgn_bd hP (i := ((j + 1 : Nat) : Int)) (by omega) (by omega)
        obtain ⟨p, hp⟩ : ∃ p : Nat, pte P ((j + 1 : Nat) : Int) = ((p : Nat) : Int) := ⟨(pte P ((j + 1 : Nat) : Int)).toNat, by rw [pte_le hP (by omega) hji]; omega⟩
        have hpe : ((p : Nat) : Int) = max (((j + 1 : Nat) : Int) - P.dl) 0 := by rw [← hp, pte_le hP (by omega) hji]
        have hmp : m ≤ p := by omega
        have hpj : p ≤ j := by omega
        have hS1 := sdA_ok s P ((j : Nat) : Int) (bgn P ((j + 1 : Nat) : Int)) ((j + 1 : Nat) : Int) _ ⟨#[116, 101, 120, 116]⟩ (pat_in hP (by omega) hji (Int.le_refl _) (by rw [bgn_succ]; omega)) (by omega) (by decide) hp
        obtain ⟨G, eG⟩ : ∃ G, tgs (kyk s P ((j + 1 : Nat) : Int)) ((j + 1 : Nat) : Int) ⟨#[116, 101, 120, 116]⟩ = G := ⟨_, rfl⟩
        obtain ⟨K, eK⟩ : ∃ K, (if 0 < ((p : Nat) : Int) then kyk s P ((p : Nat) : Int) else zk) = K := ⟨_, rfl⟩
        rw [eG, eK] at hS1
        have hS : Shut (sdA s P ((j : Nat) : Int) (bgn P ((j + 1 : Nat) : Int)) ⟨#[116, 101, 120, 116]⟩ = ((⟨((j + 1 : Nat) : Int), ⟨#[116, 101, 120, 116]⟩, G, ((p : Nat) : Int), K⟩, 0), ((j + 1 : Nat) : Int))) := ⟨hS1⟩
        clear hS1
        by_cases hjn : j + 1 < n
        · obtain ⟨b, o, eao, hcell⟩ := hC (j + 1) hjn
          subst eao
          by_cases hCj : C (j + 1) = true
          · skip
            have hg1 := mS_got (s := s) (t := ⟨#[116, 101, 120, 116]⟩) hP hmp hpj hji (by omega) hp (by decide) hCj
            have hg2 : got (mS s P C ⟨#[116, 101, 120, 116]⟩ (m) (j)) ⟨((j + 1 : Nat) : Int), ⟨#[116, 101, 120, 116]⟩, G, ((p : Nat) : Int), K⟩ (bgn P ((j + 1 : Nat) : Int)) = (((sel C m p).map (hm ⟨#[116, 101, 120, 116]⟩), 0), mS s P C ⟨#[116, 101, 120, 116]⟩ (p) (j + 1)) := by rw [own, hp, eG, eK] at hg1; exact hg1
            clear hg1
            have ho := mS_ok (s := s) (C := C) (t := ⟨#[116, 101, 120, 116]⟩) hP (by omega : m ≤ j) hj (by omega) (by decide)
            have emx : Shut (max ((p : Nat) : Int) 0 = ((p : Nat) : Int)) := ⟨by omega⟩
            have hsp := sel_split (C := C) (Nat.zero_le m) hmp
            have hlp := sel_len (C := C) 0 p
            have hlm := sel_len (C := C) 0 m
            obtain ⟨L, hL⟩ : ∃ L, (sel C m p).map (hm ⟨#[116, 101, 120, 116]⟩) = L := ⟨_, rfl⟩
            have hLl : L.length = (sel C m p).length := by rw [← hL, List.length_map]
            have hadd : (sel C 0 p).length = (sel C 0 m).length + L.length := by rw [hsp, List.length_append, hLl]
            rw [hL] at hg2
            by_cases hl : 0 < L.length
            · skip
              have et : Shut (IntKind.i64.wrap ((((sel C 0 m).length : Nat) : Int) + ((L.length : Nat) : Int)) = (((sel C 0 p).length : Nat) : Int)) := ⟨by rw [wrap_id _ (by omega) (by omega)]; omega⟩
              refine wp_seq_k fun _ κ23 => wp_seq_k fun _ κ24 => wl_region (wl_fare kn ?_)
              simp (config := { maxSteps := 10000000 }) (disch := omega) only [fx, pv, kx, (hM.get 2 rfl).cell 3 (.int .i64 ((P).ct)) rfl]
              refine wl_nil (κ24 _ _ ?_)
              refine wp_cond_true rfl (wp_skip ?_)
              refine κ23 _ _ (wp_seq_k fun _ κ25 => ?_)
              refine wp_block (wp_seq_k fun _ κ26 => ?_)
              refine wl_region (wl_give rfl (g_load_all 25 _ (w2.heap.size) (plc (P)) 25 _ rfl (hM.get 2 rfl) Tryz.underlying25 rfl (szPl _) ?_))
              refine wl_fare kn ?_
              simp (config := { maxSteps := 10000000 }) (disch := omega) only [fx, pv, kx]
              refine wl_give rfl (g_cM hM (kf28 _ _) (pbegins_any P ((j + 1 : Nat) : Int) wr _ _ hX) rfl fun w27 hM => wl_fare kn ?_)
              simp (config := { maxSteps := 10000000 }) (disch := omega) only [fx, pv, kx]
              refine wl_nil (κ26 _ _ ?_)
              refine wp_seq_k fun _ κ28 => wl_region (wl_fare kn ?_)
              simp (config := { maxSteps := 10000000 }) (disch := omega) only [fx, pv, kx]
              refine wl_give rfl (g_call 27 _ _ [.pointer (some ⟨q12, 0, none⟩), .int .i64 (bgn P ((j + 1 : Nat) : Int)), .string (⟨#[116, 101, 120, 116]⟩)] (kf27 _ _) rfl ((send_any (show Ms w w27 [sn q12 (s) (P) (((j : Nat) : Int)), rv p17 (mS s P C ⟨#[116, 101, 120, 116]⟩ (m) (j)), blk (w2.heap.size) (plc (P)) 25, blk (w.heap.size) (kc (s)) 23] from (hM.up 1 rfl)) hT (bgn P ((j + 1 : Nat) : Int)) ⟨by omega, by omega⟩ (⟨#[116, 101, 120, 116]⟩) (((j + 1 : Nat) : Int)) (⟨#[116, 101, 120, 116]⟩) (G) (((p : Nat) : Int)) (K) (0) (((j + 1 : Nat) : Int)) hS).mono ?_))
              rintro e w29 ⟨rfl, h_⟩
              refine ⟨_, rfl, ?_⟩
              replace hM : Ms w w29 [sn q12 (s) (P) (((j + 1 : Nat) : Int)), rv p17 (mS s P C ⟨#[116, 101, 120, 116]⟩ (m) (j)), blk (w2.heap.size) (plc (P)) 25, blk (w.heap.size) (kc (s)) 23] := h_
              clear h_
              refine wl_fare kn ?_
              simp (config := { maxSteps := 10000000 }) (disch := omega) only [fx, pv, kx]
              refine wl_give rfl (g_alloc 39 (pkc (0) (⟨#[]⟩) (⟨#[]⟩) (0) (zk)) zeroPk fun w30 t_ b_ => ?_)
              replace hM := hM.new t_ b_
              clear t_ b_
              try simp only [nz]
              refine wl_give rfl (g_store_all 39 _ _ (w29.heap.size) (pkc (((j + 1 : Nat) : Int)) (⟨#[116, 101, 120, 116]⟩) (G) (((p : Nat) : Int)) (K)) _ 39 rfl rfl (hM.get 0 rfl) (szPk _ _ _ _ _) (kk2_len _ _ _ _ _ _ _ _ _ _) (one_pkc _ _ _ _ _) fun w31 t_ b_ => ?_)
              replace hM : Ms w w31 [blk (w29.heap.size) (pkc (((j + 1 : Nat) : Int)) (⟨#[116, 101, 120, 116]⟩) (G) (((p : Nat) : Int)) (K)) 39, sn q12 (s) (P) (((j + 1 : Nat) : Int)), rv p17 (mS s P C ⟨#[116, 101, 120, 116]⟩ (m) (j)), blk (w2.heap.size) (plc (P)) 25, blk (w.heap.size) (kc (s)) 23] := hM.put 0 rfl t_ b_
              clear t_ b_
              refine wl_fare kn ?_
              simp (config := { maxSteps := 10000000 }) (disch := omega) only [fx, pv, kx]
              refine wl_nil (κ28 _ _ ?_)
              refine wp_seq_k fun _ κ32 => wp_seq_k fun _ κ33 => wl_region (wl_fare kn ?_)
              simp (config := { maxSteps := 10000000 }) (disch := omega) only [fx, pv, kx]
              refine wl_nil (κ33 _ _ ?_)
              refine wp_cond_false rfl (wp_skip ?_)
              refine κ32 _ _ (wp_seq_k fun _ κ34 => ?_)
              refine wp_seq_k fun _ κ35 => wl_region (wl_fare kn ?_)
              simp (config := { maxSteps := 10000000 }) (disch := omega) only [fx, pv, kx]
              refine wl_give rfl (g_len _ 83 4 ((some ⟨b, o, none⟩)) (n) (cap) (((n : Nat) : Int)) Tryz.underlying83 rfl (rfl) ?_)
              refine wl_fare kn ?_
              simp (config := { maxSteps := 10000000 }) (disch := omega) only [fx, pv, kx, ((decide_eq_false (by omega)) : decide ((((n : Nat) : Int)) ≤ (((j + 1 : Nat) : Int))) = false)]
              refine wl_give rfl (g_ix _ _ 83 4 1 Tryz.underlying83 szof4 b o n cap (j + 1) (o + (j + 1) * 1) _ rfl rfl rfl hjn rfl ?_)
              try simp only [nz]
              refine wl_give rfl (g_ld1 4 _ (b) (o + (j + 1) * 1) _ rfl (ld4 _ _ _ _ (by rw [Nat.mul_one]; exact (cell_on hM hcell).trans (by rw [hCj]))) ?_)
              refine wl_fare kn ?_
              simp (config := { maxSteps := 10000000 }) (disch := omega) only [fx, pv, kx]
              refine wl_nil (κ35 _ _ ?_)
              refine wp_cond_false rfl (wp_skip ?_)
              refine κ34 _ _ (wp_seq_k fun _ κ36 => ?_)
              refine wl_region (wl_fare kn ?_)
              simp (config := { maxSteps := 10000000 }) (disch := omega) only [fx, pv, kx]
              refine wl_give rfl (g_load_all 39 _ (w29.heap.size) (pkc (((j + 1 : Nat) : Int)) (⟨#[116, 101, 120, 116]⟩) (G) (((p : Nat) : Int)) (K)) 39 _ rfl (hM.get 0 rfl) Tryz.underlying39 rfl (szPk _ _ _ _ _) ?_)
              refine wl_fare kn ?_
              simp (config := { maxSteps := 10000000 }) (disch := omega) only [fx, pv, kx]
              refine wl_give rfl (g_call 15 _ _ [.pointer (some ⟨p17, 0, none⟩), .agg (pkc (((j + 1 : Nat) : Int)) (⟨#[116, 101, 120, 116]⟩) (G) (((p : Nat) : Int)) (K)).toArray, .int .i64 (bgn P ((j + 1 : Nat) : Int))] (kf15 _ _) rfl ((got_s (show Ms w w31 [rv p17 (mS s P C ⟨#[116, 101, 120, 116]⟩ (m) (j)), blk (w29.heap.size) (pkc (((j + 1 : Nat) : Int)) (⟨#[116, 101, 120, 116]⟩) (G) (((p : Nat) : Int)) (K)) 39, sn q12 (s) (P) (((j + 1 : Nat) : Int)), blk (w2.heap.size) (plc (P)) 25, blk (w.heap.size) (kc (s)) 23] from (hM.up 2 rfl)) hT ho ⟨((j + 1 : Nat) : Int), ⟨#[116, 101, 120, 116]⟩, G, ((p : Nat) : Int), K⟩ (bgn P ((j + 1 : Nat) : Int)) L hl 0 (mS s P C ⟨#[116, 101, 120, 116]⟩ (p) (j + 1)) hg2).mono ?_))
              rintro e w37 ⟨g38, k39, rfl, h_⟩
              refine ⟨_, rfl, ?_⟩
              replace hM : Ms w w37 [sl 73 2 g38 k39 L.length (tcs L), rv p17 (mS s P C ⟨#[116, 101, 120, 116]⟩ (p) (j + 1)), blk (w29.heap.size) (pkc (((j + 1 : Nat) : Int)) (⟨#[116, 101, 120, 116]⟩) (G) (((p : Nat) : Int)) (K)) 39, sn q12 (s) (P) (((j + 1 : Nat) : Int)), blk (w2.heap.size) (plc (P)) 25, blk (w.heap.size) (kc (s)) 23] := h_
              clear h_
              refine wl_fare kn ?_
              simp (config := { maxSteps := 10000000 }) (disch := omega) only [fx, pv, kx]
              refine wl_nil (κ36 _ _ ?_)
              refine wp_seq_k fun _ κ40 => wp_seq_k fun _ κ41 => ?_
              refine wp_region_fixed (by kernel_rfl) (by kernel_rfl) [.int .i64 (0), .bool false, .bool false, .pointer (some ⟨p17, 0, none⟩), .int .i64 (((p : Nat) : Int)), .pointer (some ⟨w29.heap.size, 3, none⟩), .int .i64 (((p : Nat) : Int)), .int .i64 (((p : Nat) : Int)), .bool false, .bool false, undef, undef, undef, .bool false, .bool false] (by rfl) (fun wx => Ms w wx [sl 73 2 g38 k39 L.length (tcs L), rv p17 (mS s P C ⟨#[116, 101, 120, 116]⟩ (p) (j + 1)), blk (w29.heap.size) (pkc (((j + 1 : Nat) : Int)) (⟨#[116, 101, 120, 116]⟩) (G) (((p : Nat) : Int)) (K)) 39, sn q12 (s) (P) (((j + 1 : Nat) : Int)), blk (w2.heap.size) (plc (P)) 25, blk (w.heap.size) (kc (s)) 23]) hM.drew (by simp only [fullL, Act.put, st_a, st_s, st_0]; exact ⟨mvL rfl rfl, fun _ hM => gw rfl (g_ine 31 _ _ .i64 (0) (0) false rfl rfl (by decide) ⟨rfl, hM⟩), mvL rfl rfl, mvL rfl rfl, fun _ hM => gw rfl (g_call 21 _ _ [.pointer (some ⟨p17, 0, none⟩)] (kf21 _ _) rfl ((keep1 1 rfl (fun R_ h_ => at_e h_ ((p : Nat) : Int) rfl) hM).mono (fun _ _ ⟨h1_, h2_⟩ => ⟨_, h1_, rfl, h2_⟩))), faL rfl rfl (fun _ => faPk3 _ _ _), fun _ hM => gw rfl (g_ld1 3 _ (w29.heap.size) (3) _ rfl (ld3 _ _ _ _ ((hM.get 2 rfl).cell (3) _ (rfl))) ⟨rfl, hM⟩), fun _ hM => gw rfl (g_max _ _ (((p : Nat) : Int)) (0) (((p : Nat) : Int)) rfl rfl (emx.out) ⟨rfl, hM⟩), fun _ hM => gw rfl (g_ine 3 _ _ .i64 (((p : Nat) : Int)) (((p : Nat) : Int)) false rfl rfl (decide_eq_false (fun h => h rfl)) ⟨rfl, hM⟩), mvL rfl rfl, skL rfl, skL rfl, skL rfl, pfL rfl rfl rfl, pfL rfl rfl rfl, trivial⟩) ?_
              simp only [fullL, Act.put, st_a, st_s, st_0]
              intro w42 hM
              refine κ41 _ _ (wp_cond_false rfl ?_)
              refine wp_skip (κ40 _ _ ?_)
              refine wp_seq_k fun _ κ43 => wp_seq_k fun _ κ44 => wl_region (wl_fare kn ?_)
              simp (config := { maxSteps := 10000000 }) (disch := omega) only [fx, pv, kx]
              refine wl_give rfl (g_len _ 43 73 ((some ⟨g38, 0, none⟩)) (L.length) (k39) (((L.length : Nat) : Int)) Tryz.underlying43 rfl (rfl) ?_)
              refine wl_fare kn ?_
              simp (config := { maxSteps := 10000000 }) (disch := omega) only [fx, pv, kx]
              refine wl_nil (κ44 _ _ ?_)
              refine wp_block ?_
              go_loopw [105] (fun v105 wr => ∃ (k : Nat), k ≤ L.length ∧ v105 = .int .i64 ((k : Nat) : Int) ∧ Ms w wr [sl 73 2 g38 k39 L.length (tcs L), rv p17 (mS s P C ⟨#[116, 101, 120, 116]⟩ (p) (j + 1)), blk (w29.heap.size) (pkc (((j + 1 : Nat) : Int)) (⟨#[116, 101, 120, 116]⟩) (G) (((p : Nat) : Int)) (K)) 39, sn q12 (s) (P) (((j + 1 : Nat) : Int)), blk (w2.heap.size) (plc (P)) 25, blk (w.heap.size) (kc (s)) 23]) (fun v105 _ => (((L.length : Nat) : Int) - intOf v105).toNat)
              case atStart => exact ⟨0, Nat.zero_le _, rfl, hM⟩
              case round =>
                clear hM
                obtain ⟨k, hk, rfl, hM⟩ := hrel
                by_cases hkl : k < L.length
                · obtain ⟨x, hx, hx1, hx2, hCx⟩ := sel_at hL hkl
                  have hxn : x < n := Nat.lt_of_not_le fun h => by rw [hC2 x h] at hCx; cases hCx
                  obtain ⟨b2, o2, e2, hc2⟩ := hC x hxn
                  cases e2
                  have ek : Shut (IntKind.i64.wrap (((k : Nat) : Int) + 1) = ((k + 1 : Nat) : Int)) := ⟨by rw [wrap_id _ (by omega) (by omega)]; omega⟩
                  refine wp_seq_k fun _ κ45 => wl_region (wl_fare kn ?_)
                  simp (config := { maxSteps := 10000000 }) (disch := omega) only [fx, pv, kx, ((decide_eq_true (by omega)) : decide ((((k : Nat) : Int)) < (((L.length : Nat) : Int))) = true)]
                  refine wl_nil (κ45 _ _ ?_)
                  refine wp_seq_k fun _ κ46 => wp_cond_true rfl (wp_skip ?_)
                  refine κ46 _ _ (wp_seq_k fun _ κ47 => ?_)
                  refine wp_block (wp_seq_k fun _ κ48 => ?_)
                  refine wl_region (wl_give rfl (g_ix _ _ 43 73 2 Tryz.underlying43 szof73 g38 0 L.length k39 k (k * 2) _ rfl rfl rfl hkl (Nat.zero_add _) ?_))
                  try simp only [nz]
                  refine wl_give rfl (g_ldTA _ (g38) (k * 2) ((((x : Nat) : Int), ⟨#[116, 101, 120, 116]⟩) : Thg) rfl (by exact sl_cell hM _ _ (tcs_at hx).1) (by exact sl_cell hM _ _ (tcs_at hx).2) ?_)
                  try simp only [nz]
                  refine wl_give rfl (g_alloc 73 (tc (0, ⟨#[]⟩)) zeroTh fun w49 t_ b_ => ?_)
                  replace hM := hM.new t_ b_
                  clear t_ b_
                  try simp only [nz]
                  refine wl_give rfl (g_store_all 73 _ _ (wr.heap.size) (tc (((x : Nat) : Int), ⟨#[116, 101, 120, 116]⟩)) _ 73 rfl rfl (hM.get 0 rfl) (sizeTh) (rfl) (one_tc _) fun w50 t_ b_ => ?_)
                  replace hM : Ms w w50 [blk (wr.heap.size) (tc (((x : Nat) : Int), ⟨#[116, 101, 120, 116]⟩)) 73, sl 73 2 g38 k39 L.length (tcs L), rv p17 (mS s P C ⟨#[116, 101, 120, 116]⟩ (p) (j + 1)), blk (w29.heap.size) (pkc (((j + 1 : Nat) : Int)) (⟨#[116, 101, 120, 116]⟩) (G) (((p : Nat) : Int)) (K)) 39, sn q12 (s) (P) (((j + 1 : Nat) : Int)), blk (w2.heap.size) (plc (P)) 25, blk (w.heap.size) (kc (s)) 23] := hM.put 0 rfl t_ b_
                  clear t_ b_
                  try simp only [nz]
                  refine wl_nil (κ48 _ _ ?_)
                  refine wp_seq_k fun _ κ51 => wl_region (wl_fare kn ?_)
                  simp (config := { maxSteps := 10000000 }) (disch := omega) only [fx, pv, kx, (hM.get 0 rfl).cell 1 (.string (⟨#[116, 101, 120, 116]⟩)) rfl]
                  refine wl_give rfl (g_sneq 9 _ _ (⟨#[116, 101, 120, 116]⟩) rfl rfl ?_)
                  refine wl_fare kn ?_
                  simp (config := { maxSteps := 10000000 }) (disch := omega) only [fx, pv, kx, (hM.get 0 rfl).cell 0 (.int .i64 (((x : Nat) : Int))) rfl, (hM.get 3 rfl).cell 3 (.int .i64 (((p : Nat) : Int))) rfl, ((decide_eq_false (by omega)) : decide ((((p : Nat) : Int)) < (((x : Nat) : Int))) = false)]
                  refine wl_give rfl (g_len _ 83 4 ((some ⟨b, o, none⟩)) (n) (cap) (((n : Nat) : Int)) Tryz.underlying83 rfl (rfl) ?_)
                  refine wl_fare kn ?_
                  simp (config := { maxSteps := 10000000 }) (disch := omega) only [fx, pv, kx, ((decide_eq_false (by omega)) : decide ((((n : Nat) : Int)) ≤ (((x : Nat) : Int))) = false), (hM.get 0 rfl).cell 0 (.int .i64 (((x : Nat) : Int))) rfl]
                  refine wl_give rfl (g_ix _ _ 83 4 1 Tryz.underlying83 szof4 b o n cap (x) (o + (x) * 1) _ rfl rfl rfl hxn rfl ?_)
                  try simp only [nz]
                  refine wl_give rfl (g_ld1 4 _ (b) (o + (x) * 1) _ rfl (ld4 _ _ _ _ (by rw [Nat.mul_one]; exact (cell_on hM hc2).trans (by rw [hCx]))) ?_)
                  refine wl_fare kn ?_
                  simp (config := { maxSteps := 10000000 }) (disch := omega) only [fx, pv, kx]
                  refine wl_nil (κ51 _ _ ?_)
                  refine wp_cond_false rfl (wp_skip ?_)
                  refine κ47 _ _ (wl_region (wl_fare kn ?_))
                  simp (config := { maxSteps := 10000000 }) (disch := omega) only [fx, pv, kx, (ek.out : IntKind.i64.wrap ((((k : Nat) : Int)) + (1)) = ((k + 1 : Nat) : Int))]
                  refine wl_nil ?_
                  have h9 := (((((((hM.erase 0).up 5 rfl).up 5 rfl).up 5 rfl).up 5 rfl).up 5 rfl).up 5 rfl)
                  (try simp only [Exit.then, Exit.inBlock, ↓reduceIte, Nat.reduceEqDiff])
                  go_roundw
                  case rel => exact ⟨k + 1, by omega, rfl, h9⟩
                  case measure => simp [intOf]; omega
                · skip
                  refine wp_seq_k fun _ κ52 => wl_region (wl_fare kn ?_)
                  simp (config := { maxSteps := 10000000 }) (disch := omega) only [fx, pv, kx, ((decide_eq_false (by omega)) : decide ((((k : Nat) : Int)) < (((L.length : Nat) : Int))) = false)]
                  refine wl_nil (κ52 _ _ ?_)
                  refine wp_seq_k fun _ κ53 => wp_cond_false rfl ?_
                  refine wp_exit (κ43 _ _ ?_)
                  refine wp_seq_k fun _ κ54 => wl_region (wl_fare kn ?_)
                  simp (config := { maxSteps := 10000000 }) (disch := omega) only [fx, pv, kx]
                  refine wl_give rfl (g_len _ 43 73 ((some ⟨g38, 0, none⟩)) (L.length) (k39) (((L.length : Nat) : Int)) Tryz.underlying43 rfl (rfl) ?_)
                  refine wl_fare kn ?_
                  simp (config := { maxSteps := 10000000 }) (disch := omega) only [fx, pv, kx, (et.out : IntKind.i64.wrap (((((sel C 0 m).length : Nat) : Int)) + (((L.length : Nat) : Int))) = (((sel C 0 p).length : Nat) : Int))]
                  refine wl_nil (κ54 _ _ ?_)
                  refine wp_seq_k fun _ κ55 => wl_region (wl_fare kn ?_)
                  simp (config := { maxSteps := 10000000 }) (disch := omega) only [fx, pv, kx]
                  refine wl_nil (κ55 _ _ ?_)
                  refine wp_seq_k fun _ κ56 => wp_seq_k fun _ κ57 => wl_region (wl_fare kn ?_)
                  simp (config := { maxSteps := 10000000 }) (disch := omega) only [fx, pv, kx]
                  refine wl_nil (κ57 _ _ ?_)
                  refine wp_block ?_
                  go_loopw [21, 22] (fun v21 v22 wr => ∃ (k : Nat), k ≤ p ∧ v21 = .int .i64 (((sel C 0 k).length : Nat) : Int) ∧ v22 = .int .i64 ((k + 1 : Nat) : Int) ∧ Ms w wr [sl 73 2 g38 k39 L.length (tcs L), rv p17 (mS s P C ⟨#[116, 101, 120, 116]⟩ (p) (j + 1)), blk (w29.heap.size) (pkc (((j + 1 : Nat) : Int)) (⟨#[116, 101, 120, 116]⟩) (G) (((p : Nat) : Int)) (K)) 39, sn q12 (s) (P) (((j + 1 : Nat) : Int)), blk (w2.heap.size) (plc (P)) 25, blk (w.heap.size) (kc (s)) 23]) (fun _ v22 _ => (((p : Nat) : Int) + 1 - intOf v22).toNat)
                  case atStart => exact ⟨0, Nat.zero_le _, rfl, rfl, hM⟩
                  case round =>
                    clear hM
                    obtain ⟨k, hkp, rfl, rfl, hM⟩ := hrel
                    have hlk := sel_len (C := C) 0 k
                    have ek : Shut (IntKind.i64.wrap (((k + 1 : Nat) : Int) + 1) = ((k + 1 + 1 : Nat) : Int)) := ⟨by rw [wrap_id _ (by omega) (by omega)]; omega⟩
                    by_cases hk1 : k + 1 ≤ p
                    · by_cases hkn : k + 1 < n
                      · obtain ⟨b2, o2, e2, hc2⟩ := hC (k + 1) hkn
                        cases e2
                        by_cases hCk : C (k + 1) = true
                        · skip
                          have ew : Shut (IntKind.i64.wrap ((((sel C 0 k).length : Nat) : Int) + 1) = (((sel C 0 (k + 1)).length : Nat) : Int)) := ⟨by rw [sel_yes hCk, wrap_id _ (by omega) (by omega)]; omega⟩
                          refine wp_seq_k fun _ κ58 => wp_seq_k fun _ κ59 => wl_region (wl_fare kn ?_)
                          simp (config := { maxSteps := 10000000 }) (disch := omega) only [fx, pv, kx, (hM.get 2 rfl).cell 3 (.int .i64 (((p : Nat) : Int))) rfl, ((decide_eq_true (by omega)) : decide ((((k + 1 : Nat) : Int)) ≤ (((p : Nat) : Int))) = true)]
                          refine wl_nil (κ59 _ _ ?_)
                          refine wp_cond_true rfl (wp_skip ?_)
                          refine κ58 _ _ (wp_seq_k fun _ κ60 => ?_)
                          refine wp_block (wp_seq_k fun _ κ61 => ?_)
                          refine wl_region (wl_fare kn ?_)
                          simp (config := { maxSteps := 10000000 }) (disch := omega) only [fx, pv, kx]
                          refine wl_give rfl (g_len _ 83 4 ((some ⟨b, o, none⟩)) (n) (cap) (((n : Nat) : Int)) Tryz.underlying83 rfl (rfl) ?_)
                          refine wl_fare kn ?_
                          simp (config := { maxSteps := 10000000 }) (disch := omega) only [fx, pv, kx, ((decide_eq_true (by omega)) : decide ((((k + 1 : Nat) : Int)) < (((n : Nat) : Int))) = true)]
                          refine wl_give rfl (g_ix _ _ 83 4 1 Tryz.underlying83 szof4 b o n cap (k + 1) (o + (k + 1) * 1) _ rfl rfl rfl hkn rfl ?_)
                          try simp only [nz]
                          refine wl_give rfl (g_ld1 4 _ (b) (o + (k + 1) * 1) _ rfl (ld4 _ _ _ _ (by rw [Nat.mul_one]; exact (cell_on hM hc2).trans (by rw [hCk]))) ?_)
                          refine wl_fare kn ?_
                          simp (config := { maxSteps := 10000000 }) (disch := omega) only [fx, pv, kx]
                          refine wl_nil (κ61 _ _ ?_)
                          refine wp_cond_true rfl (wl_region (wl_fare kn ?_))
                          simp (config := { maxSteps := 10000000 }) (disch := omega) only [fx, pv, kx, (ew.out : IntKind.i64.wrap (((((sel C 0 k).length : Nat) : Int)) + (1)) = (((sel C 0 (k + 1)).length : Nat) : Int))]
                          refine wl_nil (κ60 _ _ ?_)
                          refine wl_region (wl_fare kn ?_)
                          simp (config := { maxSteps := 10000000 }) (disch := omega) only [fx, pv, kx, (ek.out : IntKind.i64.wrap ((((k + 1 : Nat) : Int)) + (1)) = ((k + 1 + 1 : Nat) : Int))]
                          refine wl_nil ?_
                          have h9 := ((((((hM.up 5 rfl).up 5 rfl).up 5 rfl).up 5 rfl).up 5 rfl).up 5 rfl)
                          (try simp only [Exit.then, Exit.inBlock, ↓reduceIte, Nat.reduceEqDiff])
                          go_roundw
                          case rel => exact ⟨k + 1, hk1, rfl, rfl, h9⟩
                          case measure => simp [intOf]; omega
                        · replace hCk : C (k + 1) = false := by simpa using hCk
                          refine wp_seq_k fun _ κ62 => wp_seq_k fun _ κ63 => wl_region (wl_fare kn ?_)
                          simp (config := { maxSteps := 10000000 }) (disch := omega) only [fx, pv, kx, (hM.get 2 rfl).cell 3 (.int .i64 (((p : Nat) : Int))) rfl, ((decide_eq_true (by omega)) : decide ((((k + 1 : Nat) : Int)) ≤ (((p : Nat) : Int))) = true)]
                          refine wl_nil (κ63 _ _ ?_)
                          refine wp_cond_true rfl (wp_skip ?_)
                          refine κ62 _ _ (wp_seq_k fun _ κ64 => ?_)
                          refine wp_block (wp_seq_k fun _ κ65 => ?_)
                          refine wl_region (wl_fare kn ?_)
                          simp (config := { maxSteps := 10000000 }) (disch := omega) only [fx, pv, kx]
                          refine wl_give rfl (g_len _ 83 4 ((some ⟨b, o, none⟩)) (n) (cap) (((n : Nat) : Int)) Tryz.underlying83 rfl (rfl) ?_)
                          refine wl_fare kn ?_
                          simp (config := { maxSteps := 10000000 }) (disch := omega) only [fx, pv, kx, ((decide_eq_true (by omega)) : decide ((((k + 1 : Nat) : Int)) < (((n : Nat) : Int))) = true)]
                          refine wl_give rfl (g_ix _ _ 83 4 1 Tryz.underlying83 szof4 b o n cap (k + 1) (o + (k + 1) * 1) _ rfl rfl rfl hkn rfl ?_)
                          try simp only [nz]
                          refine wl_give rfl (g_ld1 4 _ (b) (o + (k + 1) * 1) _ rfl (ld4 _ _ _ _ (by rw [Nat.mul_one]; exact (cell_on hM hc2).trans (by rw [hCk]))) ?_)
                          refine wl_fare kn ?_
                          simp (config := { maxSteps := 10000000 }) (disch := omega) only [fx, pv, kx]
                          refine wl_nil (κ65 _ _ ?_)
                          refine wp_cond_false rfl (wp_skip ?_)
                          refine κ64 _ _ (wl_region (wl_fare kn ?_))
                          simp (config := { maxSteps := 10000000 }) (disch := omega) only [fx, pv, kx, (ek.out : IntKind.i64.wrap ((((k + 1 : Nat) : Int)) + (1)) = ((k + 1 + 1 : Nat) : Int))]
                          refine wl_nil ?_
                          have h9 := ((((((hM.up 5 rfl).up 5 rfl).up 5 rfl).up 5 rfl).up 5 rfl).up 5 rfl)
                          (try simp only [Exit.then, Exit.inBlock, ↓reduceIte, Nat.reduceEqDiff])
                          go_roundw
                          case rel => exact ⟨k + 1, hk1, by rw [sel_no hCk], rfl, h9⟩
                          case measure => simp [intOf]; omega
                      · have hCk := hC2 (k + 1) (by omega)
                        refine wp_seq_k (fun K66 hK66 => ?_)
                        refine wp_seq_k (fun K67 hK67 => ?_)
                        refine wl_region (wl_give rfl (g_move _ (.int .i64 (((k + 1 : Nat) : Int))) rfl ?_))
                        try simp only [nz]
                        refine wl_give rfl (g_fa 39 _ (w29.heap.size) (0) (3) 3 rfl (faPk3 _ _ _) ?_)
                        try simp only [nz]
                        refine wl_give rfl (g_ld1 3 _ (w29.heap.size) (3) _ rfl (ld3 _ _ _ _ ((hM.get 2 rfl).cell (3) _ (rfl))) ?_)
                        try simp only [nz]
                        refine wl_give rfl (g_ileq 3 _ _ .i64 (((k + 1 : Nat) : Int)) (((p : Nat) : Int)) true rfl rfl (decide_eq_true (by omega)) ?_)
                        try simp only [nz]
                        refine wl_nil ?_
                        refine hK67 _ _ ?_
                        (try clear hK67 K67)
                        refine wp_cond_true rfl (wp_skip ?_)
                        refine hK66 _ _ ?_
                        (try clear hK66 K66)
                        refine wp_seq_k (fun K68 hK68 => ?_)
                        refine wp_block (wp_seq_k (fun K69 hK69 => ?_))
                        refine wl_region (wl_give rfl (g_move _ (.int .i64 (((k + 1 : Nat) : Int))) rfl ?_))
                        try simp only [nz]
                        refine wl_give rfl (g_move _ (.slice (some ⟨b, o, none⟩) (n) (cap)) rfl ?_)
                        try simp only [nz]
                        refine wl_give rfl (g_len _ 83 4 ((some ⟨b, o, none⟩)) (n) (cap) (((n : Nat) : Int)) Tryz.underlying83 rfl (rfl) ?_)
                        try simp only [nz]
                        refine wl_give rfl (g_ilss 3 _ _ .i64 (((k + 1 : Nat) : Int)) (((n : Nat) : Int)) false rfl rfl (decide_eq_false (by omega)) ?_)
                        try simp only [nz]
                        refine wl_give rfl (g_move _ (.bool false) rfl ?_)
                        try simp only [nz]
                        refine wl_skip rfl ?_
                        try simp only [nz]
                        refine wl_skip rfl ?_
                        try simp only [nz]
                        refine wl_skip rfl ?_
                        try simp only [nz]
                        refine wl_skip rfl ?_
                        try simp only [nz]
                        refine wl_give rfl (g_pickf _ _ _ (.bool false) rfl rfl ?_)
                        try simp only [nz]
                        refine wl_nil ?_
                        refine hK69 _ _ ?_
                        (try clear hK69 K69)
                        refine wp_cond_false rfl (wp_skip ?_)
                        refine hK68 _ _ ?_
                        (try clear hK68 K68)
                        refine wl_region (wl_give rfl (g_move _ (.int .i64 (((k + 1 : Nat) : Int))) rfl ?_))
                        try simp only [nz]
                        refine wl_give rfl (g_ia 3 _ _ .i64 (((k + 1 : Nat) : Int)) (1) (((k + 1 + 1 : Nat) : Int)) rfl rfl ek.out ?_)
                        try simp only [nz]
                        refine wl_give rfl (g_assign _ (.int .i64 (((k + 1 + 1 : Nat) : Int))) rfl ?_)
                        try simp only [nz]
                        refine wl_nil ?_
                        have h9 := ((((((hM.up 5 rfl).up 5 rfl).up 5 rfl).up 5 rfl).up 5 rfl).up 5 rfl)
                        (try simp only [Exit.then, Exit.inBlock, ↓reduceIte, Nat.reduceEqDiff])
                        go_roundw
                        case rel => exact ⟨k + 1, hk1, by rw [sel_no hCk], rfl, h9⟩
                        case measure => simp [intOf]; omega
                    · have hkp2 : k = p := by omega
                      refine wp_seq_k fun _ κ70 => wp_seq_k fun _ κ71 => wl_region (wl_fare kn ?_)
                      simp (config := { maxSteps := 10000000 }) (disch := omega) only [fx, pv, kx, (hM.get 2 rfl).cell 3 (.int .i64 (((p : Nat) : Int))) rfl, ((decide_eq_false (by omega)) : decide ((((k + 1 : Nat) : Int)) ≤ (((p : Nat) : Int))) = false)]
                      refine wl_nil (κ71 _ _ ?_)
                      refine wp_cond_false rfl ?_
                      refine wp_exit (κ56 _ _ ?_)
                      refine wp_seq_k fun _ κ72 => wl_region (wl_fare kn ?_)
                      simp (config := { maxSteps := 10000000 }) (disch := omega) only [fx, pv, kx, ((decide_eq_false (fun h => h (by rw [hkp2]))) : decide (((((sel C 0 p).length : Nat) : Int)) ≠ ((((sel C 0 k).length : Nat) : Int))) = false)]
                      refine wl_nil (κ72 _ _ ?_)
                      refine wp_cond_false rfl (wp_skip ?_)
                      refine κ25 _ _ (wl_region (wl_fare kn ?_))
                      simp (config := { maxSteps := 10000000 }) (disch := omega) only [fx, pv, kx, (ej.out : IntKind.i64.wrap ((((j + 1 : Nat) : Int)) + (1)) = ((j + 1 + 1 : Nat) : Int))]
                      refine wl_nil ?_
                      have h9 := ((((((hM.erase 0).erase 1).up 3 rfl).up 3 rfl).up 3 rfl).up 3 rfl)
                      (try simp only [Exit.then, Exit.inBlock, ↓reduceIte, Nat.reduceEqDiff])
                      go_roundw
                      case rel => exact ⟨j + 1, p, hji, by omega, rfl, rfl, h9⟩
                      case measure => simp [intOf]; omega
            · obtain rfl : L = [] := List.eq_nil_of_length_eq_zero (by omega)
              rw [List.length_nil] at hadd
              have et : Shut (IntKind.i64.wrap ((((sel C 0 m).length : Nat) : Int) + 0) = (((sel C 0 p).length : Nat) : Int)) := ⟨by rw [wrap_id _ (by omega) (by omega)]; omega⟩
              refine wp_seq_k fun _ κ73 => wp_seq_k fun _ κ74 => wl_region (wl_fare kn ?_)
              simp (config := { maxSteps := 10000000 }) (disch := omega) only [fx, pv, kx, (hM.get 2 rfl).cell 3 (.int .i64 ((P).ct)) rfl]
              refine wl_nil (κ74 _ _ ?_)
              refine wp_cond_true rfl (wp_skip ?_)
              refine κ73 _ _ (wp_seq_k fun _ κ75 => ?_)
              refine wp_block (wp_seq_k fun _ κ76 => ?_)
              refine wl_region (wl_give rfl (g_load_all 25 _ (w2.heap.size) (plc (P)) 25 _ rfl (hM.get 2 rfl) Tryz.underlying25 rfl (szPl _) ?_))
              refine wl_fare kn ?_
              simp (config := { maxSteps := 10000000 }) (disch := omega) only [fx, pv, kx]
              refine wl_give rfl (g_cM hM (kf28 _ _) (pbegins_any P ((j + 1 : Nat) : Int) wr _ _ hX) rfl fun w77 hM => wl_fare kn ?_)
              simp (config := { maxSteps := 10000000 }) (disch := omega) only [fx, pv, kx]
              refine wl_nil (κ76 _ _ ?_)
              refine wp_seq_k fun _ κ78 => wl_region (wl_fare kn ?_)
              simp (config := { maxSteps := 10000000 }) (disch := omega) only [fx, pv, kx]
              refine wl_give rfl (g_call 27 _ _ [.pointer (some ⟨q12, 0, none⟩), .int .i64 (bgn P ((j + 1 : Nat) : Int)), .string (⟨#[116, 101, 120, 116]⟩)] (kf27 _ _) rfl ((send_any (show Ms w w77 [sn q12 (s) (P) (((j : Nat) : Int)), rv p17 (mS s P C ⟨#[116, 101, 120, 116]⟩ (m) (j)), blk (w2.heap.size) (plc (P)) 25, blk (w.heap.size) (kc (s)) 23] from (hM.up 1 rfl)) hT (bgn P ((j + 1 : Nat) : Int)) ⟨by omega, by omega⟩ (⟨#[116, 101, 120, 116]⟩) (((j + 1 : Nat) : Int)) (⟨#[116, 101, 120, 116]⟩) (G) (((p : Nat) : Int)) (K) (0) (((j + 1 : Nat) : Int)) hS).mono ?_))
              rintro e w79 ⟨rfl, h_⟩
              refine ⟨_, rfl, ?_⟩
              replace hM : Ms w w79 [sn q12 (s) (P) (((j + 1 : Nat) : Int)), rv p17 (mS s P C ⟨#[116, 101, 120, 116]⟩ (m) (j)), blk (w2.heap.size) (plc (P)) 25, blk (w.heap.size) (kc (s)) 23] := h_
              clear h_
              refine wl_fare kn ?_
              simp (config := { maxSteps := 10000000 }) (disch := omega) only [fx, pv, kx]
              refine wl_give rfl (g_alloc 39 (pkc (0) (⟨#[]⟩) (⟨#[]⟩) (0) (zk)) zeroPk fun w80 t_ b_ => ?_)
              replace hM := hM.new t_ b_
              clear t_ b_
              try simp only [nz]
              refine wl_give rfl (g_store_all 39 _ _ (w79.heap.size) (pkc (((j + 1 : Nat) : Int)) (⟨#[116, 101, 120, 116]⟩) (G) (((p : Nat) : Int)) (K)) _ 39 rfl rfl (hM.get 0 rfl) (szPk _ _ _ _ _) (kk2_len _ _ _ _ _ _ _ _ _ _) (one_pkc _ _ _ _ _) fun w81 t_ b_ => ?_)
              replace hM : Ms w w81 [blk (w79.heap.size) (pkc (((j + 1 : Nat) : Int)) (⟨#[116, 101, 120, 116]⟩) (G) (((p : Nat) : Int)) (K)) 39, sn q12 (s) (P) (((j + 1 : Nat) : Int)), rv p17 (mS s P C ⟨#[116, 101, 120, 116]⟩ (m) (j)), blk (w2.heap.size) (plc (P)) 25, blk (w.heap.size) (kc (s)) 23] := hM.put 0 rfl t_ b_
              clear t_ b_
              refine wl_fare kn ?_
              simp (config := { maxSteps := 10000000 }) (disch := omega) only [fx, pv, kx]
              refine wl_nil (κ78 _ _ ?_)
              refine wp_seq_k fun _ κ82 => wp_seq_k fun _ κ83 => wl_region (wl_fare kn ?_)
              simp (config := { maxSteps := 10000000 }) (disch := omega) only [fx, pv, kx]
              refine wl_nil (κ83 _ _ ?_)
              refine wp_cond_false rfl (wp_skip ?_)
              refine κ82 _ _ (wp_seq_k fun _ κ84 => ?_)
              refine wp_seq_k fun _ κ85 => wl_region (wl_fare kn ?_)
              simp (config := { maxSteps := 10000000 }) (disch := omega) only [fx, pv, kx]
              refine wl_give rfl (g_len _ 83 4 ((some ⟨b, o, none⟩)) (n) (cap) (((n : Nat) : Int)) Tryz.underlying83 rfl (rfl) ?_)
              refine wl_fare kn ?_
              simp (config := { maxSteps := 10000000 }) (disch := omega) only [fx, pv, kx, ((decide_eq_false (by omega)) : decide ((((n : Nat) : Int)) ≤ (((j + 1 : Nat) : Int))) = false)]
              refine wl_give rfl (g_ix _ _ 83 4 1 Tryz.underlying83 szof4 b o n cap (j + 1) (o + (j + 1) * 1) _ rfl rfl rfl hjn rfl ?_)
              try simp only [nz]
              refine wl_give rfl (g_ld1 4 _ (b) (o + (j + 1) * 1) _ rfl (ld4 _ _ _ _ (by rw [Nat.mul_one]; exact (cell_on hM hcell).trans (by rw [hCj]))) ?_)
              refine wl_fare kn ?_
              simp (config := { maxSteps := 10000000 }) (disch := omega) only [fx, pv, kx]
              refine wl_nil (κ85 _ _ ?_)
              refine wp_cond_false rfl (wp_skip ?_)
              refine κ84 _ _ (wp_seq_k fun _ κ86 => ?_)
              refine wl_region (wl_fare kn ?_)
              simp (config := { maxSteps := 10000000 }) (disch := omega) only [fx, pv, kx]
              refine wl_give rfl (g_load_all 39 _ (w79.heap.size) (pkc (((j + 1 : Nat) : Int)) (⟨#[116, 101, 120, 116]⟩) (G) (((p : Nat) : Int)) (K)) 39 _ rfl (hM.get 0 rfl) Tryz.underlying39 rfl (szPk _ _ _ _ _) ?_)
              refine wl_fare kn ?_
              simp (config := { maxSteps := 10000000 }) (disch := omega) only [fx, pv, kx]
              refine wl_give rfl (g_call 15 _ _ [.pointer (some ⟨p17, 0, none⟩), .agg (pkc (((j + 1 : Nat) : Int)) (⟨#[116, 101, 120, 116]⟩) (G) (((p : Nat) : Int)) (K)).toArray, .int .i64 (bgn P ((j + 1 : Nat) : Int))] (kf15 _ _) rfl ((got_n (show Ms w w81 [rv p17 (mS s P C ⟨#[116, 101, 120, 116]⟩ (m) (j)), blk (w79.heap.size) (pkc (((j + 1 : Nat) : Int)) (⟨#[116, 101, 120, 116]⟩) (G) (((p : Nat) : Int)) (K)) 39, sn q12 (s) (P) (((j + 1 : Nat) : Int)), blk (w2.heap.size) (plc (P)) 25, blk (w.heap.size) (kc (s)) 23] from (hM.up 2 rfl)) hT ho ⟨((j + 1 : Nat) : Int), ⟨#[116, 101, 120, 116]⟩, G, ((p : Nat) : Int), K⟩ (bgn P ((j + 1 : Nat) : Int)) 0 (mS s P C ⟨#[116, 101, 120, 116]⟩ (p) (j + 1)) hg2).mono ?_))
              rintro e w87 ⟨o88, k89, rfl, h_⟩
              refine ⟨_, rfl, ?_⟩
              replace hM : Ms w w87 [rv p17 (mS s P C ⟨#[116, 101, 120, 116]⟩ (p) (j + 1)), blk (w79.heap.size) (pkc (((j + 1 : Nat) : Int)) (⟨#[116, 101, 120, 116]⟩) (G) (((p : Nat) : Int)) (K)) 39, sn q12 (s) (P) (((j + 1 : Nat) : Int)), blk (w2.heap.size) (plc (P)) 25, blk (w.heap.size) (kc (s)) 23] := h_
              clear h_
              refine wl_fare kn ?_
              simp (config := { maxSteps := 10000000 }) (disch := omega) only [fx, pv, kx]
              refine wl_nil (κ86 _ _ ?_)
              refine wp_seq_k fun _ κ90 => wp_seq_k fun _ κ91 => ?_
              refine wp_region_fixed (by kernel_rfl) (by kernel_rfl) [.int .i64 (0), .bool false, .bool false, .pointer (some ⟨p17, 0, none⟩), .int .i64 (((p : Nat) : Int)), .pointer (some ⟨w79.heap.size, 3, none⟩), .int .i64 (((p : Nat) : Int)), .int .i64 (((p : Nat) : Int)), .bool false, .bool false, undef, undef, undef, .bool false, .bool false] (by rfl) (fun wx => Ms w wx [rv p17 (mS s P C ⟨#[116, 101, 120, 116]⟩ (p) (j + 1)), blk (w79.heap.size) (pkc (((j + 1 : Nat) : Int)) (⟨#[116, 101, 120, 116]⟩) (G) (((p : Nat) : Int)) (K)) 39, sn q12 (s) (P) (((j + 1 : Nat) : Int)), blk (w2.heap.size) (plc (P)) 25, blk (w.heap.size) (kc (s)) 23]) hM.drew (by simp only [fullL, Act.put, st_a, st_s, st_0]; exact ⟨mvL rfl rfl, fun _ hM => gw rfl (g_ine 31 _ _ .i64 (0) (0) false rfl rfl (by decide) ⟨rfl, hM⟩), mvL rfl rfl, mvL rfl rfl, fun _ hM => gw rfl (g_call 21 _ _ [.pointer (some ⟨p17, 0, none⟩)] (kf21 _ _) rfl ((keep1 0 rfl (fun R_ h_ => at_e h_ ((p : Nat) : Int) rfl) hM).mono (fun _ _ ⟨h1_, h2_⟩ => ⟨_, h1_, rfl, h2_⟩))), faL rfl rfl (fun _ => faPk3 _ _ _), fun _ hM => gw rfl (g_ld1 3 _ (w79.heap.size) (3) _ rfl (ld3 _ _ _ _ ((hM.get 1 rfl).cell (3) _ (rfl))) ⟨rfl, hM⟩), fun _ hM => gw rfl (g_max _ _ (((p : Nat) : Int)) (0) (((p : Nat) : Int)) rfl rfl (emx.out) ⟨rfl, hM⟩), fun _ hM => gw rfl (g_ine 3 _ _ .i64 (((p : Nat) : Int)) (((p : Nat) : Int)) false rfl rfl (decide_eq_false (fun h => h rfl)) ⟨rfl, hM⟩), mvL rfl rfl, skL rfl, skL rfl, skL rfl, pfL rfl rfl rfl, pfL rfl rfl rfl, trivial⟩) ?_
              simp only [fullL, Act.put, st_a, st_s, st_0]
              intro w92 hM
              refine κ91 _ _ (wp_cond_false rfl ?_)
              refine wp_skip (κ90 _ _ ?_)
              refine wp_seq_k fun _ κ93 => wp_seq_k fun _ κ94 => wl_region (wl_fare kn ?_)
              simp (config := { maxSteps := 10000000 }) (disch := omega) only [fx, pv, kx]
              refine wl_give rfl (g_len _ 43 73 (o88) (0) (k89) (0) Tryz.underlying43 rfl (rfl) ?_)
              refine wl_fare kn ?_
              simp (config := { maxSteps := 10000000 }) (disch := omega) only [fx, pv, kx]
              refine wl_nil (κ94 _ _ ?_)
              refine wp_block ?_
              go_loopw [105] (fun v105 wr => v105 = .int .i64 0 ∧ Ms w wr [rv p17 (mS s P C ⟨#[116, 101, 120, 116]⟩ (p) (j + 1)), blk (w79.heap.size) (pkc (((j + 1 : Nat) : Int)) (⟨#[116, 101, 120, 116]⟩) (G) (((p : Nat) : Int)) (K)) 39, sn q12 (s) (P) (((j + 1 : Nat) : Int)), blk (w2.heap.size) (plc (P)) 25, blk (w.heap.size) (kc (s)) 23]) (fun _ _ => 0)
              case atStart => exact ⟨rfl, hM⟩
              case round =>
                clear hM
                obtain ⟨rfl, hM⟩ := hrel
                refine wp_seq_k fun _ κ95 => wl_region (wl_fare kn ?_)
                simp (config := { maxSteps := 10000000 }) (disch := omega) only [fx, pv, kx]
                refine wl_nil (κ95 _ _ ?_)
                refine wp_seq_k fun _ κ96 => wp_cond_false rfl ?_
                refine wp_exit (κ93 _ _ ?_)
                refine wp_seq_k fun _ κ97 => wl_region (wl_fare kn ?_)
                simp (config := { maxSteps := 10000000 }) (disch := omega) only [fx, pv, kx]
                refine wl_give rfl (g_len _ 43 73 (o88) (0) (k89) (0) Tryz.underlying43 rfl (rfl) ?_)
                refine wl_fare kn ?_
                simp (config := { maxSteps := 10000000 }) (disch := omega) only [fx, pv, kx, (et.out : IntKind.i64.wrap (((((sel C 0 m).length : Nat) : Int)) + (0)) = (((sel C 0 p).length : Nat) : Int))]
                refine wl_nil (κ97 _ _ ?_)
                refine wp_seq_k fun _ κ98 => wl_region (wl_fare kn ?_)
                simp (config := { maxSteps := 10000000 }) (disch := omega) only [fx, pv, kx]
                refine wl_nil (κ98 _ _ ?_)
                refine wp_seq_k fun _ κ99 => wp_seq_k fun _ κ100 => wl_region (wl_fare kn ?_)
                simp (config := { maxSteps := 10000000 }) (disch := omega) only [fx, pv, kx]
                refine wl_nil (κ100 _ _ ?_)
                refine wp_block ?_
                go_loopw [21, 22] (fun v21 v22 wr => ∃ (k : Nat), k ≤ p ∧ v21 = .int .i64 (((sel C 0 k).length : Nat) : Int) ∧ v22 = .int .i64 ((k + 1 : Nat) : Int) ∧ Ms w wr [rv p17 (mS s P C ⟨#[116, 101, 120, 116]⟩ (p) (j + 1)), blk (w79.heap.size) (pkc (((j + 1 : Nat) : Int)) (⟨#[116, 101, 120, 116]⟩) (G) (((p : Nat) : Int)) (K)) 39, sn q12 (s) (P) (((j + 1 : Nat) : Int)), blk (w2.heap.size) (plc (P)) 25, blk (w.heap.size) (kc (s)) 23]) (fun _ v22 _ => (((p : Nat) : Int) + 1 - intOf v22).toNat)
                case atStart => exact ⟨0, Nat.zero_le _, rfl, rfl, hM⟩
                case round =>
                  clear hM
                  obtain ⟨k, hkp, rfl, rfl, hM⟩ := hrel
                  have hlk := sel_len (C := C) 0 k
                  have ek : Shut (IntKind.i64.wrap (((k + 1 : Nat) : Int) + 1) = ((k + 1 + 1 : Nat) : Int)) := ⟨by rw [wrap_id _ (by omega) (by omega)]; omega⟩
                  by_cases hk1 : k + 1 ≤ p
                  · by_cases hkn : k + 1 < n
                    · obtain ⟨b2, o2, e2, hc2⟩ := hC (k + 1) hkn
                      cases e2
                      by_cases hCk : C (k + 1) = true
                      · skip
                        have ew : Shut (IntKind.i64.wrap ((((sel C 0 k).length : Nat) : Int) + 1) = (((sel C 0 (k + 1)).length : Nat) : Int)) := ⟨by rw [sel_yes hCk, wrap_id _ (by omega) (by omega)]; omega⟩
                        refine wp_seq_k fun _ κ101 => wp_seq_k fun _ κ102 => wl_region (wl_fare kn ?_)
                        simp (config := { maxSteps := 10000000 }) (disch := omega) only [fx, pv, kx, (hM.get 1 rfl).cell 3 (.int .i64 (((p : Nat) : Int))) rfl, ((decide_eq_true (by omega)) : decide ((((k + 1 : Nat) : Int)) ≤ (((p : Nat) : Int))) = true)]
                        refine wl_nil (κ102 _ _ ?_)
                        refine wp_cond_true rfl (wp_skip ?_)
                        refine κ101 _ _ (wp_seq_k fun _ κ103 => ?_)
                        refine wp_block (wp_seq_k fun _ κ104 => ?_)
                        refine wl_region (wl_fare kn ?_)
                        simp (config := { maxSteps := 10000000 }) (disch := omega) only [fx, pv, kx]
                        refine wl_give rfl (g_len _ 83 4 ((some ⟨b, o, none⟩)) (n) (cap) (((n : Nat) : Int)) Tryz.underlying83 rfl (rfl) ?_)
                        refine wl_fare kn ?_
                        simp (config := { maxSteps := 10000000 }) (disch := omega) only [fx, pv, kx, ((decide_eq_true (by omega)) : decide ((((k + 1 : Nat) : Int)) < (((n : Nat) : Int))) = true)]
                        refine wl_give rfl (g_ix _ _ 83 4 1 Tryz.underlying83 szof4 b o n cap (k + 1) (o + (k + 1) * 1) _ rfl rfl rfl hkn rfl ?_)
                        try simp only [nz]
                        refine wl_give rfl (g_ld1 4 _ (b) (o + (k + 1) * 1) _ rfl (ld4 _ _ _ _ (by rw [Nat.mul_one]; exact (cell_on hM hc2).trans (by rw [hCk]))) ?_)
                        refine wl_fare kn ?_
                        simp (config := { maxSteps := 10000000 }) (disch := omega) only [fx, pv, kx]
                        refine wl_nil (κ104 _ _ ?_)
                        refine wp_cond_true rfl (wl_region (wl_fare kn ?_))
                        simp (config := { maxSteps := 10000000 }) (disch := omega) only [fx, pv, kx, (ew.out : IntKind.i64.wrap (((((sel C 0 k).length : Nat) : Int)) + (1)) = (((sel C 0 (k + 1)).length : Nat) : Int))]
                        refine wl_nil (κ103 _ _ ?_)
                        refine wl_region (wl_fare kn ?_)
                        simp (config := { maxSteps := 10000000 }) (disch := omega) only [fx, pv, kx, (ek.out : IntKind.i64.wrap ((((k + 1 : Nat) : Int)) + (1)) = ((k + 1 + 1 : Nat) : Int))]
                        refine wl_nil ?_
                        have h9 := (((((hM.up 4 rfl).up 4 rfl).up 4 rfl).up 4 rfl).up 4 rfl)
                        (try simp only [Exit.then, Exit.inBlock, ↓reduceIte, Nat.reduceEqDiff])
                        go_roundw
                        case rel => exact ⟨k + 1, hk1, rfl, rfl, h9⟩
                        case measure => simp [intOf]; omega
                      · replace hCk : C (k + 1) = false := by simpa using hCk
                        refine wp_seq_k fun _ κ105 => wp_seq_k fun _ κ106 => wl_region (wl_fare kn ?_)
                        simp (config := { maxSteps := 10000000 }) (disch := omega) only [fx, pv, kx, (hM.get 1 rfl).cell 3 (.int .i64 (((p : Nat) : Int))) rfl, ((decide_eq_true (by omega)) : decide ((((k + 1 : Nat) : Int)) ≤ (((p : Nat) : Int))) = true)]
                        refine wl_nil (κ106 _ _ ?_)
                        refine wp_cond_true rfl (wp_skip ?_)
                        refine κ105 _ _ (wp_seq_k fun _ κ107 => ?_)
                        refine wp_block (wp_seq_k fun _ κ108 => ?_)
                        refine wl_region (wl_fare kn ?_)
                        simp (config := { maxSteps := 10000000 }) (disch := omega) only [fx, pv, kx]
                        refine wl_give rfl (g_len _ 83 4 ((some ⟨b, o, none⟩)) (n) (cap) (((n : Nat) : Int)) Tryz.underlying83 rfl (rfl) ?_)
                        refine wl_fare kn ?_
                        simp (config := { maxSteps := 10000000 }) (disch := omega) only [fx, pv, kx, ((decide_eq_true (by omega)) : decide ((((k + 1 : Nat) : Int)) < (((n : Nat) : Int))) = true)]
                        refine wl_give rfl (g_ix _ _ 83 4 1 Tryz.underlying83 szof4 b o n cap (k + 1) (o + (k + 1) * 1) _ rfl rfl rfl hkn rfl ?_)
                        try simp only [nz]
                        refine wl_give rfl (g_ld1 4 _ (b) (o + (k + 1) * 1) _ rfl (ld4 _ _ _ _ (by rw [Nat.mul_one]; exact (cell_on hM hc2).trans (by rw [hCk]))) ?_)
                        refine wl_fare kn ?_
                        simp (config := { maxSteps := 10000000 }) (disch := omega) only [fx, pv, kx]
                        refine wl_nil (κ108 _ _ ?_)
                        refine wp_cond_false rfl (wp_skip ?_)
                        refine κ107 _ _ (wl_region (wl_fare kn ?_))
                        simp (config := { maxSteps := 10000000 }) (disch := omega) only [fx, pv, kx, (ek.out : IntKind.i64.wrap ((((k + 1 : Nat) : Int)) + (1)) = ((k + 1 + 1 : Nat) : Int))]
                        refine wl_nil ?_
                        have h9 := (((((hM.up 4 rfl).up 4 rfl).up 4 rfl).up 4 rfl).up 4 rfl)
                        (try simp only [Exit.then, Exit.inBlock, ↓reduceIte, Nat.reduceEqDiff])
                        go_roundw
                        case rel => exact ⟨k + 1, hk1, by rw [sel_no hCk], rfl, h9⟩
                        case measure => simp [intOf]; omega
                    · have hCk := hC2 (k + 1) (by omega)
                      refine wp_seq_k (fun K109 hK109 => ?_)
                      refine wp_seq_k (fun K110 hK110 => ?_)
                      refine wl_region (wl_give rfl (g_move _ (.int .i64 (((k + 1 : Nat) : Int))) rfl ?_))
                      try simp only [nz]
                      refine wl_give rfl (g_fa 39 _ (w79.heap.size) (0) (3) 3 rfl (faPk3 _ _ _) ?_)
                      try simp only [nz]
                      refine wl_give rfl (g_ld1 3 _ (w79.heap.size) (3) _ rfl (ld3 _ _ _ _ ((hM.get 1 rfl).cell (3) _ (rfl))) ?_)
                      try simp only [nz]
                      refine wl_give rfl (g_ileq 3 _ _ .i64 (((k + 1 : Nat) : Int)) (((p : Nat) : Int)) true rfl rfl (decide_eq_true (by omega)) ?_)
                      try simp only [nz]
                      refine wl_nil ?_
                      refine hK110 _ _ ?_
                      (try clear hK110 K110)
                      refine wp_cond_true rfl (wp_skip ?_)
                      refine hK109 _ _ ?_
                      (try clear hK109 K109)
                      refine wp_seq_k (fun K111 hK111 => ?_)
                      refine wp_block (wp_seq_k (fun K112 hK112 => ?_))
                      refine wl_region (wl_give rfl (g_move _ (.int .i64 (((k + 1 : Nat) : Int))) rfl ?_))
                      try simp only [nz]
                      refine wl_give rfl (g_move _ (.slice (some ⟨b, o, none⟩) (n) (cap)) rfl ?_)
                      try simp only [nz]
                      refine wl_give rfl (g_len _ 83 4 ((some ⟨b, o, none⟩)) (n) (cap) (((n : Nat) : Int)) Tryz.underlying83 rfl (rfl) ?_)
                      try simp only [nz]
                      refine wl_give rfl (g_ilss 3 _ _ .i64 (((k + 1 : Nat) : Int)) (((n : Nat) : Int)) false rfl rfl (decide_eq_false (by omega)) ?_)
                      try simp only [nz]
                      refine wl_give rfl (g_move _ (.bool false) rfl ?_)
                      try simp only [nz]
                      refine wl_skip rfl ?_
                      try simp only [nz]
                      refine wl_skip rfl ?_
                      try simp only [nz]
                      refine wl_skip rfl ?_
                      try simp only [nz]
                      refine wl_skip rfl ?_
                      try simp only [nz]
                      refine wl_give rfl (g_pickf _ _ _ (.bool false) rfl rfl ?_)
                      try simp only [nz]
                      refine wl_nil ?_
                      refine hK112 _ _ ?_
                      (try clear hK112 K112)
                      refine wp_cond_false rfl (wp_skip ?_)
                      refine hK111 _ _ ?_
                      (try clear hK111 K111)
                      refine wl_region (wl_give rfl (g_move _ (.int .i64 (((k + 1 : Nat) : Int))) rfl ?_))
                      try simp only [nz]
                      refine wl_give rfl (g_ia 3 _ _ .i64 (((k + 1 : Nat) : Int)) (1) (((k + 1 + 1 : Nat) : Int)) rfl rfl ek.out ?_)
                      try simp only [nz]
                      refine wl_give rfl (g_assign _ (.int .i64 (((k + 1 + 1 : Nat) : Int))) rfl ?_)
                      try simp only [nz]
                      refine wl_nil ?_
                      have h9 := (((((hM.up 4 rfl).up 4 rfl).up 4 rfl).up 4 rfl).up 4 rfl)
                      (try simp only [Exit.then, Exit.inBlock, ↓reduceIte, Nat.reduceEqDiff])
                      go_roundw
                      case rel => exact ⟨k + 1, hk1, by rw [sel_no hCk], rfl, h9⟩
                      case measure => simp [intOf]; omega
                  · have hkp2 : k = p := by omega
                    refine wp_seq_k fun _ κ113 => wp_seq_k fun _ κ114 => wl_region (wl_fare kn ?_)
                    simp (config := { maxSteps := 10000000 }) (disch := omega) only [fx, pv, kx, (hM.get 1 rfl).cell 3 (.int .i64 (((p : Nat) : Int))) rfl, ((decide_eq_false (by omega)) : decide ((((k + 1 : Nat) : Int)) ≤ (((p : Nat) : Int))) = false)]
                    refine wl_nil (κ114 _ _ ?_)
                    refine wp_cond_false rfl ?_
                    refine wp_exit (κ99 _ _ ?_)
                    refine wp_seq_k fun _ κ115 => wl_region (wl_fare kn ?_)
                    simp (config := { maxSteps := 10000000 }) (disch := omega) only [fx, pv, kx, ((decide_eq_false (fun h => h (by rw [hkp2]))) : decide (((((sel C 0 p).length : Nat) : Int)) ≠ ((((sel C 0 k).length : Nat) : Int))) = false)]
                    refine wl_nil (κ115 _ _ ?_)
                    refine wp_cond_false rfl (wp_skip ?_)
                    refine κ75 _ _ (wl_region (wl_fare kn ?_))
                    simp (config := { maxSteps := 10000000 }) (disch := omega) only [fx, pv, kx, (ej.out : IntKind.i64.wrap ((((j + 1 : Nat) : Int)) + (1)) = ((j + 1 + 1 : Nat) : Int))]
                    refine wl_nil ?_
                    have h9 := (((((hM.erase 1).up 3 rfl).up 3 rfl).up 3 rfl).up 3 rfl)
                    (try simp only [Exit.then, Exit.inBlock, ↓reduceIte, Nat.reduceEqDiff])
                    go_roundw
                    case rel => exact ⟨j + 1, p, hji, by omega, rfl, rfl, h9⟩
                    case measure => simp [intOf]; omega
          · replace hCj : C (j + 1) = false := by simpa using hCj
            refine wp_seq_k fun _ κ116 => wp_seq_k fun _ κ117 => wl_region (wl_fare kn ?_)
            simp (config := { maxSteps := 10000000 }) (disch := omega) only [fx, pv, kx, (hM.get 2 rfl).cell 3 (.int .i64 ((P).ct)) rfl]
            refine wl_nil (κ117 _ _ ?_)
            refine wp_cond_true rfl (wp_skip ?_)
            refine κ116 _ _ (wp_seq_k fun _ κ118 => ?_)
            refine wp_block (wp_seq_k fun _ κ119 => ?_)
            refine wl_region (wl_give rfl (g_load_all 25 _ (w2.heap.size) (plc (P)) 25 _ rfl (hM.get 2 rfl) Tryz.underlying25 rfl (szPl _) ?_))
            refine wl_fare kn ?_
            simp (config := { maxSteps := 10000000 }) (disch := omega) only [fx, pv, kx]
            refine wl_give rfl (g_cM hM (kf28 _ _) (pbegins_any P ((j + 1 : Nat) : Int) wr _ _ hX) rfl fun w120 hM => wl_fare kn ?_)
            simp (config := { maxSteps := 10000000 }) (disch := omega) only [fx, pv, kx]
            refine wl_nil (κ119 _ _ ?_)
            refine wp_seq_k fun _ κ121 => wl_region (wl_fare kn ?_)
            simp (config := { maxSteps := 10000000 }) (disch := omega) only [fx, pv, kx]
            refine wl_give rfl (g_call 27 _ _ [.pointer (some ⟨q12, 0, none⟩), .int .i64 (bgn P ((j + 1 : Nat) : Int)), .string (⟨#[116, 101, 120, 116]⟩)] (kf27 _ _) rfl ((send_any (show Ms w w120 [sn q12 (s) (P) (((j : Nat) : Int)), rv p17 (mS s P C ⟨#[116, 101, 120, 116]⟩ (m) (j)), blk (w2.heap.size) (plc (P)) 25, blk (w.heap.size) (kc (s)) 23] from (hM.up 1 rfl)) hT (bgn P ((j + 1 : Nat) : Int)) ⟨by omega, by omega⟩ (⟨#[116, 101, 120, 116]⟩) (((j + 1 : Nat) : Int)) (⟨#[116, 101, 120, 116]⟩) (G) (((p : Nat) : Int)) (K) (0) (((j + 1 : Nat) : Int)) hS).mono ?_))
            rintro e w122 ⟨rfl, h_⟩
            refine ⟨_, rfl, ?_⟩
            replace hM : Ms w w122 [sn q12 (s) (P) (((j + 1 : Nat) : Int)), rv p17 (mS s P C ⟨#[116, 101, 120, 116]⟩ (m) (j)), blk (w2.heap.size) (plc (P)) 25, blk (w.heap.size) (kc (s)) 23] := h_
            clear h_
            refine wl_fare kn ?_
            simp (config := { maxSteps := 10000000 }) (disch := omega) only [fx, pv, kx]
            refine wl_give rfl (g_alloc 39 (pkc (0) (⟨#[]⟩) (⟨#[]⟩) (0) (zk)) zeroPk fun w123 t_ b_ => ?_)
            replace hM := hM.new t_ b_
            clear t_ b_
            try simp only [nz]
            refine wl_give rfl (g_store_all 39 _ _ (w122.heap.size) (pkc (((j + 1 : Nat) : Int)) (⟨#[116, 101, 120, 116]⟩) (G) (((p : Nat) : Int)) (K)) _ 39 rfl rfl (hM.get 0 rfl) (szPk _ _ _ _ _) (kk2_len _ _ _ _ _ _ _ _ _ _) (one_pkc _ _ _ _ _) fun w124 t_ b_ => ?_)
            replace hM : Ms w w124 [blk (w122.heap.size) (pkc (((j + 1 : Nat) : Int)) (⟨#[116, 101, 120, 116]⟩) (G) (((p : Nat) : Int)) (K)) 39, sn q12 (s) (P) (((j + 1 : Nat) : Int)), rv p17 (mS s P C ⟨#[116, 101, 120, 116]⟩ (m) (j)), blk (w2.heap.size) (plc (P)) 25, blk (w.heap.size) (kc (s)) 23] := hM.put 0 rfl t_ b_
            clear t_ b_
            refine wl_fare kn ?_
            simp (config := { maxSteps := 10000000 }) (disch := omega) only [fx, pv, kx]
            refine wl_nil (κ121 _ _ ?_)
            refine wp_seq_k fun _ κ125 => wp_seq_k fun _ κ126 => wl_region (wl_fare kn ?_)
            simp (config := { maxSteps := 10000000 }) (disch := omega) only [fx, pv, kx]
            refine wl_nil (κ126 _ _ ?_)
            refine wp_cond_false rfl (wp_skip ?_)
            refine κ125 _ _ (wp_seq_k fun _ κ127 => ?_)
            refine wp_seq_k fun _ κ128 => wl_region (wl_fare kn ?_)
            simp (config := { maxSteps := 10000000 }) (disch := omega) only [fx, pv, kx]
            refine wl_give rfl (g_len _ 83 4 ((some ⟨b, o, none⟩)) (n) (cap) (((n : Nat) : Int)) Tryz.underlying83 rfl (rfl) ?_)
            refine wl_fare kn ?_
            simp (config := { maxSteps := 10000000 }) (disch := omega) only [fx, pv, kx, ((decide_eq_false (by omega)) : decide ((((n : Nat) : Int)) ≤ (((j + 1 : Nat) : Int))) = false)]
            refine wl_give rfl (g_ix _ _ 83 4 1 Tryz.underlying83 szof4 b o n cap (j + 1) (o + (j + 1) * 1) _ rfl rfl rfl hjn rfl ?_)
            try simp only [nz]
            refine wl_give rfl (g_ld1 4 _ (b) (o + (j + 1) * 1) _ rfl (ld4 _ _ _ _ (by rw [Nat.mul_one]; exact (cell_on hM hcell).trans (by rw [hCj]))) ?_)
            refine wl_fare kn ?_
            simp (config := { maxSteps := 10000000 }) (disch := omega) only [fx, pv, kx]
            refine wl_nil (κ128 _ _ ?_)
            refine wp_cond_true rfl ?_
            refine wp_exit (κ118 _ _ ?_)
            refine wl_region (wl_fare kn ?_)
            simp (config := { maxSteps := 10000000 }) (disch := omega) only [fx, pv, kx, (ej.out : IntKind.i64.wrap ((((j + 1 : Nat) : Int)) + (1)) = ((j + 1 + 1 : Nat) : Int))]
            refine wl_nil ?_
            have h9 := (((((hM.erase 0).up 3 rfl).up 3 rfl).up 2 rfl).up 3 rfl)
            rw [← mS_skip (s := s) (P := P) (t := ⟨#[116, 101, 120, 116]⟩) (by omega : m ≤ j) hCj] at h9
            (try simp only [Exit.then, Exit.inBlock, ↓reduceIte, Nat.reduceEqDiff])
            go_roundw
            case rel => exact ⟨j + 1, m, hji, by omega, rfl, rfl, h9⟩
            case measure => simp [intOf]; omega
        · skip
          refine wp_seq_k fun _ κ129 => wp_seq_k fun _ κ130 => wl_region (wl_fare kn ?_)
          simp (config := { maxSteps := 10000000 }) (disch := omega) only [fx, pv, kx, (hM.get 2 rfl).cell 3 (.int .i64 ((P).ct)) rfl]
          refine wl_nil (κ130 _ _ ?_)
          refine wp_cond_true rfl (wp_skip ?_)
          refine κ129 _ _ (wp_seq_k fun _ κ131 => ?_)
          refine wp_block (wp_seq_k fun _ κ132 => ?_)
          refine wl_region (wl_give rfl (g_load_all 25 _ (w2.heap.size) (plc (P)) 25 _ rfl (hM.get 2 rfl) Tryz.underlying25 rfl (szPl _) ?_))
          refine wl_fare kn ?_
          simp (config := { maxSteps := 10000000 }) (disch := omega) only [fx, pv, kx]
          refine wl_give rfl (g_cM hM (kf28 _ _) (pbegins_any P ((j + 1 : Nat) : Int) wr _ _ hX) rfl fun w133 hM => wl_fare kn ?_)
          simp (config := { maxSteps := 10000000 }) (disch := omega) only [fx, pv, kx]
          refine wl_nil (κ132 _ _ ?_)
          refine wp_seq_k fun _ κ134 => wl_region (wl_fare kn ?_)
          simp (config := { maxSteps := 10000000 }) (disch := omega) only [fx, pv, kx]
          refine wl_give rfl (g_call 27 _ _ [.pointer (some ⟨q12, 0, none⟩), .int .i64 (bgn P ((j + 1 : Nat) : Int)), .string (⟨#[116, 101, 120, 116]⟩)] (kf27 _ _) rfl ((send_any (show Ms w w133 [sn q12 (s) (P) (((j : Nat) : Int)), rv p17 (mS s P C ⟨#[116, 101, 120, 116]⟩ (m) (j)), blk (w2.heap.size) (plc (P)) 25, blk (w.heap.size) (kc (s)) 23] from (hM.up 1 rfl)) hT (bgn P ((j + 1 : Nat) : Int)) ⟨by omega, by omega⟩ (⟨#[116, 101, 120, 116]⟩) (((j + 1 : Nat) : Int)) (⟨#[116, 101, 120, 116]⟩) (G) (((p : Nat) : Int)) (K) (0) (((j + 1 : Nat) : Int)) hS).mono ?_))
          rintro e w135 ⟨rfl, h_⟩
          refine ⟨_, rfl, ?_⟩
          replace hM : Ms w w135 [sn q12 (s) (P) (((j + 1 : Nat) : Int)), rv p17 (mS s P C ⟨#[116, 101, 120, 116]⟩ (m) (j)), blk (w2.heap.size) (plc (P)) 25, blk (w.heap.size) (kc (s)) 23] := h_
          clear h_
          refine wl_fare kn ?_
          simp (config := { maxSteps := 10000000 }) (disch := omega) only [fx, pv, kx]
          refine wl_give rfl (g_alloc 39 (pkc (0) (⟨#[]⟩) (⟨#[]⟩) (0) (zk)) zeroPk fun w136 t_ b_ => ?_)
          replace hM := hM.new t_ b_
          clear t_ b_
          try simp only [nz]
          refine wl_give rfl (g_store_all 39 _ _ (w135.heap.size) (pkc (((j + 1 : Nat) : Int)) (⟨#[116, 101, 120, 116]⟩) (G) (((p : Nat) : Int)) (K)) _ 39 rfl rfl (hM.get 0 rfl) (szPk _ _ _ _ _) (kk2_len _ _ _ _ _ _ _ _ _ _) (one_pkc _ _ _ _ _) fun w137 t_ b_ => ?_)
          replace hM : Ms w w137 [blk (w135.heap.size) (pkc (((j + 1 : Nat) : Int)) (⟨#[116, 101, 120, 116]⟩) (G) (((p : Nat) : Int)) (K)) 39, sn q12 (s) (P) (((j + 1 : Nat) : Int)), rv p17 (mS s P C ⟨#[116, 101, 120, 116]⟩ (m) (j)), blk (w2.heap.size) (plc (P)) 25, blk (w.heap.size) (kc (s)) 23] := hM.put 0 rfl t_ b_
          clear t_ b_
          refine wl_fare kn ?_
          simp (config := { maxSteps := 10000000 }) (disch := omega) only [fx, pv, kx]
          refine wl_nil (κ134 _ _ ?_)
          refine wp_seq_k fun _ κ138 => wp_seq_k fun _ κ139 => wl_region (wl_fare kn ?_)
          simp (config := { maxSteps := 10000000 }) (disch := omega) only [fx, pv, kx]
          refine wl_nil (κ139 _ _ ?_)
          refine wp_cond_false rfl (wp_skip ?_)
          refine κ138 _ _ (wp_seq_k fun _ κ140 => ?_)
          refine wp_seq_k fun _ κ141 => wl_region (wl_fare kn ?_)
          simp (config := { maxSteps := 10000000 }) (disch := omega) only [fx, pv, kx]
          refine wl_give rfl (g_len _ 83 4 (ao) (n) (cap) (((n : Nat) : Int)) Tryz.underlying83 rfl (rfl) ?_)
          refine wl_fare kn ?_
          simp (config := { maxSteps := 10000000 }) (disch := omega) only [fx, pv, kx, ((decide_eq_true (by omega)) : decide ((((n : Nat) : Int)) ≤ (((j + 1 : Nat) : Int))) = true)]
          refine wl_nil (κ141 _ _ ?_)
          refine wp_cond_true rfl ?_
          refine wp_exit (κ131 _ _ ?_)
          refine wl_region (wl_fare kn ?_)
          simp (config := { maxSteps := 10000000 }) (disch := omega) only [fx, pv, kx, (ej.out : IntKind.i64.wrap ((((j + 1 : Nat) : Int)) + (1)) = ((j + 1 + 1 : Nat) : Int))]
          refine wl_nil ?_
          have h9 := (((((hM.erase 0).up 3 rfl).up 3 rfl).up 2 rfl).up 3 rfl)
          rw [← mS_skip (s := s) (P := P) (t := ⟨#[116, 101, 120, 116]⟩) (by omega : m ≤ j) (hC2 (j + 1) (by omega))] at h9
          (try simp only [Exit.then, Exit.inBlock, ↓reduceIte, Nat.reduceEqDiff])
          go_roundw
          case rel => exact ⟨j + 1, m, hji, by omega, rfl, rfl, h9⟩
          case measure => simp [intOf]; omega
      · skip
        refine wp_seq_k fun _ κ142 => wp_seq_k fun _ κ143 => wl_region (wl_fare kn ?_)
        simp (config := { maxSteps := 10000000 }) (disch := omega) only [fx, pv, kx, (hM.get 2 rfl).cell 3 (.int .i64 ((P).ct)) rfl]
        refine wl_nil (κ143 _ _ ?_)
        refine wp_cond_false rfl ?_
        refine wp_exit (κ21 _ _ ?_)
        refine wp_seq_k fun _ κ144 => wl_region (wl_fare kn ?_)
        simp (config := { maxSteps := 10000000 }) (disch := omega) only [fx, pv, kx]
        refine wl_nil (κ144 _ _ ?_)
        refine wp_ret ?_
        go_ret
        exact ⟨rfl, hM.below⟩
theorem walk (l0 : List UInt8) (h0 : l0.length = 32) (P : Pl) (ao : Option Addr) (n cap : Nat) (w : World) (hT : Tabs w) (hp : PIn P) (hc : LV OkB w ao n) (hn : n ≤ cap) (hcap : cap ≤ maxLen) : Calls Tryz.prog 8 #[.agg (bc l0).toArray, .agg (plc P).toArray, .slice ao n cap] w fun e w' => e = .returned (.bool true) ∧ Below w.heap.size w w' := by
  unfold maxLen at hcap
  by_cases hP : POk P
  · by_cases h1 : 16 < P.ct
    · exact walk_2 ⟨l0, h0⟩ P ao n cap w hT hP h1
    · obtain ⟨C, hC, hC2⟩ := pick hc
      exact walk_3 ⟨l0, h0⟩ P ao n cap w hT hP h1 (by omega) C hC hC2
  · exact walk_1 ⟨l0, h0⟩ P ao n cap w hT hP
end Go.Proofs.YtcclcemdodoiiaaGreatDoor.receiverMissed
