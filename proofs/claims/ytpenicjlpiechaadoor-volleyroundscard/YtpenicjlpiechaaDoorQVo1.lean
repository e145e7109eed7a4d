/- What volley's may, half and bound, Round's two closures and cmp.Or of errors answer. -/
import Derived.Test.YtpenicjlpiechaaDoorQRunK
import Derived.Test.YtpenicjlpiechaaDoorQVoMath
import Derived.WalkKit
import Derived.WalkSpells
import Derived.WalkLawsBesides
namespace Go.Proofs.YtpenicjlpiechaaDoor
set_option maxRecDepth 10000
open Go Go.RowKit
set_option linter.unusedVariables false
set_option linter.unusedSimpArgs false

set_option maxHeartbeats 8000000 in
theorem may_y (r : Int) (w : World) (h : 0 ≤ r ∧ r ≤ 100000000) : Calls Tryd.prog 23 #[.int .i64 r] w fun e w' => e = .returned (.bool true) ∧ Below w.heap.size w w' := by
  have hM := Ms.refl w
  go_enter Tryd.func23, Tryd.ntmps23
  refine wp_seq_k fun _ κ1 => wl_region (wl_fare kn ?_)
  simp (disch := omega) only [fx, pv, kx]
  refine wl_nil (κ1 _ _ ?_)
  refine wp_seq_k fun _ κ2 => wl_region (wl_fare kn ?_)
  simp (disch := omega) only [fx, pv, kx]
  refine wl_nil (κ2 _ _ ?_)
  refine wp_ret ?_
  go_ret
  exact ⟨rfl, hM.below⟩
set_option maxHeartbeats 8000000 in
theorem may_n1 (r : Int) (w : World) (h : ¬ 0 ≤ r) : Calls Tryd.prog 23 #[.int .i64 r] w fun e w' => e = .returned (.bool false) ∧ Below w.heap.size w w' := by
  have hM := Ms.refl w
  go_enter Tryd.func23, Tryd.ntmps23
  refine wp_seq_k fun _ κ1 => wl_region (wl_fare kn ?_)
  simp (disch := omega) only [fx, pv, kx]
  refine wl_nil (κ1 _ _ ?_)
  refine wp_seq_k fun _ κ2 => wl_region (wl_fare kn ?_)
  simp (disch := omega) only [fx, pv, kx]
  refine wl_nil (κ2 _ _ ?_)
  refine wp_ret ?_
  go_ret
  exact ⟨rfl, hM.below⟩
set_option maxHeartbeats 8000000 in
theorem may_n2 (r : Int) (w : World) (h : 0 ≤ r) (h2 : ¬ r ≤ 100000000) : Calls Tryd.prog 23 #[.int .i64 r] w fun e w' => e = .returned (.bool false) ∧ Below w.heap.size w w' := by
  have hM := Ms.refl w
  go_enter Tryd.func23, Tryd.ntmps23
  refine wp_seq_k fun _ κ1 => wl_region (wl_fare kn ?_)
  simp (disch := omega) only [fx, pv, kx]
  refine wl_nil (κ1 _ _ ?_)
  refine wp_seq_k fun _ κ2 => wl_region (wl_fare kn ?_)
  simp (disch := omega) only [fx, pv, kx]
  refine wl_nil (κ2 _ _ ?_)
  refine wp_ret ?_
  go_ret
  exact ⟨rfl, hM.below⟩
theorem may_n (r : Int) (w : World) (h : ¬ (0 ≤ r ∧ r ≤ 100000000)) : Calls Tryd.prog 23 #[.int .i64 r] w fun e w' => e = .returned (.bool false) ∧ Below w.heap.size w w' := by
  by_cases h1 : 0 ≤ r
  · exact may_n2 r w h1 fun h2 => h ⟨h1, h2⟩
  · exact may_n1 r w h1
theorem fnz_0 (l : List Int) : fnz (0 :: l) = fnz l := by rw [fnz, if_neg (fun h => h rfl)]
theorem fnz_1 (E : Int) : fnz [E] = E := by
  by_cases h : E = 0
  · subst h; rfl
  · rw [fnz, if_pos h]
theorem fnz_skip : ∀ (l : List Int) (j : Nat), (∀ i, i < j → l[i]? = some 0 ∨ l[i]? = none) → ∀ v, l[j]? = some v → v ≠ 0 → fnz l = v
  | [], j, _, v, h, _ => by simp at h
  | a :: l, 0, _, v, h, hv => by
    obtain rfl : a = v := by simpa using h
    rw [fnz, if_pos hv]
  | a :: l, j + 1, h0, v, h, hv => by
    have ha : a = 0 := by
      rcases h0 0 (by omega) with h | h
      · simpa using h
      · simp at h
    rw [fnz, if_neg (fun h => h ha)]
    exact fnz_skip l j (fun i hi => by simpa using h0 (i + 1) (by omega)) v (by simpa using h) hv
theorem fnz_none : ∀ (l : List Int), (∀ i, i < l.length → l[i]? = some 0) → fnz l = 0
  | [], _ => rfl
  | a :: l, h => by
    have ha : a = 0 := by simpa using h 0 (by simp)
    rw [fnz, if_neg (fun h => h ha)]
    exact fnz_none l fun i hi => by simpa using h (i + 1) (by simpa using hi)
set_option maxHeartbeats 8000000 in
theorem or_any {w0 w : World} {R : List HP} {g : Nat} (l : List Int) {n : Nat} (hn : l.length = n) (hs : n ≤ 100) (Z : Int) (hR : fnz l = Z) (hM : Ms w0 w (blk g (l.map (Value.int .i64)) 25 :: R)) : Calls Tryd.prog 26 #[.slice (some ⟨g, 0, none⟩) n n] w fun e w' => e = .returned (.int .i64 Z) ∧ Ms w0 w' (blk g (l.map (Value.int .i64)) 25 :: R) := by
  go_enter Tryd.func26, Tryd.ntmps26
  refine wp_seq_k fun _ κ1 => wl_region (wl_fare kn ?_)
  simp (disch := omega) only [fx, pv, kx]
  refine wl_nil (κ1 _ _ ?_)
  refine wp_seq_k fun _ κ2 => wl_region (wl_fare kn ?_)
  simp (disch := omega) only [fx, pv, kx]
  refine wl_nil (κ2 _ _ ?_)
  refine wp_seq_k fun _ κ3 => wp_seq_k fun _ κ4 => wl_region (wl_fare kn ?_)
  simp (disch := omega) only [fx, pv, kx]
  refine wl_give rfl (g_len _ 98 25 (some ⟨g, 0, none⟩) (n) (n) (((n : Nat) : Int)) Tryd.underlying98 rfl rfl ?_)
  refine wl_fare kn ?_
  simp (disch := omega) only [fx, pv, kx]
  refine wl_nil (κ4 _ _ ?_)
  refine wp_block ?_
  go_loopw [8] (fun v8 wr => ∃ k : Nat, k ≤ n ∧ (∀ i, i < k → l[i]? = some 0) ∧ v8 = .int .i64 ((k : Nat) : Int) ∧ Ms w0 wr (blk g (l.map (Value.int .i64)) 25 :: R)) (fun v8 _ => (((n : Nat) : Int) - intOf v8).toNat)
  case atStart => exact ⟨0, Nat.zero_le _, fun i hi => absurd hi (Nat.not_lt_zero i), rfl, hM⟩
  case round =>
    clear hM
    obtain ⟨k, hk, h0, rfl, hM⟩ := hrel
    by_cases hkn : k < n
    · obtain ⟨v, hv⟩ : ∃ v, l[k]? = some v := ⟨_, List.getElem?_eq_getElem (by omega)⟩
      have hc : (l.map (Value.int .i64))[k]? = some (.int .i64 v) := by rw [List.getElem?_map, hv]; rfl
      have ek : Shut (IntKind.i64.wrap (((k : Nat) : Int) + 1) = ((k + 1 : Nat) : Int)) := ⟨by rw [wrap_id _ (by omega) (by omega)]; omega⟩
      by_cases hz : v = 0
      · subst hz
        refine wp_seq_k (fun K5 hK5 => ?_)
        refine wl_region (wl_give rfl (g_ilss 3 _ _ .i64 (((k : Nat) : Int)) (((n : Nat) : Int)) true rfl rfl (decide_eq_true (by omega)) ?_))
        try simp only [nz]
        refine wl_nil ?_
        refine hK5 _ _ ?_
        (try clear hK5 K5)
        refine wp_seq_k (fun K6 hK6 => ?_)
        refine wp_cond_true rfl (wp_skip ?_)
        refine hK6 _ _ ?_
        (try clear hK6 K6)
        refine wp_seq_k (fun K7 hK7 => ?_)
        refine wp_block (wp_seq_k (fun K8 hK8 => ?_))
        refine wl_region (wl_give rfl (g_ix _ _ 98 25 1 Tryd.underlying98 (fun w => Tryd.sizeOf25 w) g 0 n n k (k * 1) _ rfl rfl rfl hkn (Nat.zero_add _) ?_))
        try simp only [nz]
        refine wl_give rfl (g_ld1 25 _ g (k * 1) _ rfl (ld25 _ _ _ _ ((hM.get 0 rfl).cell (k * 1) _ (by rw [Nat.mul_one]; exact hc))) ?_)
        try simp only [nz]
        refine wl_give rfl (g_assign _ (.int .i64 (0)) rfl ?_)
        try simp only [nz]
        refine wl_nil ?_
        refine hK8 _ _ ?_
        (try clear hK8 K8)
        refine wp_seq_k (fun K9 hK9 => ?_)
        refine wl_region (wl_give rfl (g_move _ (.int .i64 (0)) rfl ?_))
        try simp only [nz]
        refine wl_give rfl (g_move _ (.int .i64 (0)) rfl ?_)
        try simp only [nz]
        refine wl_give rfl (g_ine 25 _ _ .i64 (0) (0) false rfl rfl (by decide) ?_)
        try simp only [nz]
        refine wl_nil ?_
        refine hK9 _ _ ?_
        (try clear hK9 K9)
        refine wp_cond_false rfl (wp_skip ?_)
        refine hK7 _ _ ?_
        (try clear hK7 K7)
        refine wl_region (wl_give rfl (g_ia 3 _ _ .i64 (((k : Nat) : Int)) (1) (((k + 1 : Nat) : Int)) rfl rfl ek.out ?_))
        try simp only [nz]
        refine wl_give rfl (g_move _ (.int .i64 (((k + 1 : Nat) : Int))) rfl ?_)
        try simp only [nz]
        refine wl_nil ?_
        have h9 := (hM.up 0 rfl)
        (try simp only [Exit.then, Exit.inBlock, ↓reduceIte, Nat.reduceEqDiff])
        go_roundw
        case rel => exact ⟨k + 1, by omega, fun i hi => by rcases Nat.lt_succ_iff_lt_or_eq.1 hi with h | h; exact h0 i h; subst h; exact hv, rfl, h9⟩
        case measure => simp [intOf]; omega
      · skip
        refine wp_seq_k (fun K10 hK10 => ?_)
        refine wl_region (wl_give rfl (g_ilss 3 _ _ .i64 (((k : Nat) : Int)) (((n : Nat) : Int)) true rfl rfl (decide_eq_true (by omega)) ?_))
        try simp only [nz]
        refine wl_nil ?_
        refine hK10 _ _ ?_
        (try clear hK10 K10)
        refine wp_seq_k (fun K11 hK11 => ?_)
        refine wp_cond_true rfl (wp_skip ?_)
        refine hK11 _ _ ?_
        (try clear hK11 K11)
        refine wp_seq_k (fun K12 hK12 => ?_)
        refine wp_block (wp_seq_k (fun K13 hK13 => ?_))
        refine wl_region (wl_give rfl (g_ix _ _ 98 25 1 Tryd.underlying98 (fun w => Tryd.sizeOf25 w) g 0 n n k (k * 1) _ rfl rfl rfl hkn (Nat.zero_add _) ?_))
        try simp only [nz]
        refine wl_give rfl (g_ld1 25 _ g (k * 1) _ rfl (ld25 _ _ _ _ ((hM.get 0 rfl).cell (k * 1) _ (by rw [Nat.mul_one]; exact hc))) ?_)
        try simp only [nz]
        refine wl_give rfl (g_assign _ (.int .i64 (v)) rfl ?_)
        try simp only [nz]
        refine wl_nil ?_
        refine hK13 _ _ ?_
        (try clear hK13 K13)
        refine wp_seq_k (fun K14 hK14 => ?_)
        refine wl_region (wl_give rfl (g_move _ (.int .i64 (v)) rfl ?_))
        try simp only [nz]
        refine wl_give rfl (g_move _ (.int .i64 (0)) rfl ?_)
        try simp only [nz]
        refine wl_give rfl (g_ine 25 _ _ .i64 (v) (0) true rfl rfl (decide_eq_true hz) ?_)
        try simp only [nz]
        refine wl_nil ?_
        refine hK14 _ _ ?_
        (try clear hK14 K14)
        refine wp_cond_true rfl (wp_seq_k (fun K15 hK15 => ?_))
        refine wl_region (wl_give rfl (g_move _ (.int .i64 (v)) rfl ?_))
        try simp only [nz]
        refine wl_give rfl (g_assign _ (.int .i64 (v)) rfl ?_)
        try simp only [nz]
        refine wl_nil ?_
        refine hK15 _ _ ?_
        (try clear hK15 K15)
        refine wp_ret ?_
        rw [← hR, fnz_skip l k (fun i hi => .inl (h0 i hi)) v hv hz]
        go_ret
        exact ⟨rfl, (hM.up 0 rfl)⟩
    · skip
      refine wp_seq_k (fun K16 hK16 => ?_)
      refine wl_region (wl_give rfl (g_ilss 3 _ _ .i64 (((k : Nat) : Int)) (((n : Nat) : Int)) false rfl rfl (decide_eq_false (by omega)) ?_))
      try simp only [nz]
      refine wl_nil ?_
      refine hK16 _ _ ?_
      (try clear hK16 K16)
      refine wp_seq_k (fun K17 hK17 => ?_)
      refine wp_cond_false rfl ?_
      refine wp_exit (κ3 _ _ ?_)
      refine wp_seq_k (fun K18 hK18 => ?_)
      refine wl_region (wl_give rfl (g_move _ (.int .i64 (0)) rfl ?_))
      try simp only [nz]
      refine wl_give rfl (g_assign _ (.int .i64 (0)) rfl ?_)
      try simp only [nz]
      refine wl_nil ?_
      refine hK18 _ _ ?_
      (try clear hK18 K18)
      refine wp_ret ?_
      rw [← hR, fnz_none l (fun i hi => h0 i (by omega))]
      go_ret
      exact ⟨rfl, (hM.up 0 rfl)⟩
set_option maxHeartbeats 8000000 in
theorem num_any {w0 w : World} {R : List HP} {b : Nat} (z e F V E F2 : Int) (hV : Hid (Wd.wh z = (V, E))) (hF : fnz [F, e, E] = F2) (hM : Ms w0 w (blk b [.int .i64 F] 25 :: R)) : Calls Tryd.prog 24 #[.agg (Wd.nl z).toArray, .int .i64 e, .pointer (some ⟨b, 0, none⟩)] w fun e w' => e = .returned (.int .i64 V) ∧ Ms w0 w' (blk b [.int .i64 F2] 25 :: R) := by
  go_enter Tryd.func24, Tryd.ntmps24
  refine wp_seq_k fun _ κ1 => wl_region (wl_give rfl (g_box 60 _ (Wd.nl (z)) rfl ?_))
  intro w2 t_ b_
  replace hM := hM.new t_ b_
  clear t_ b_
  refine wl_fare kn ?_
  simp (disch := omega) only [fx, pv, kx]
  refine wl_nil (κ1 _ _ ?_)
  refine wp_seq_k fun _ κ3 => wl_region (wl_give rfl (g_load_all 60 _ (w.heap.size) (Wd.nl (z)) 60 _ rfl (hM.get 0 rfl) Tryd.underlying60 rfl (Wd.szN _) ?_))
  try simp only [nz]
  refine wl_give rfl (g_cM hM (kf25 _ _) (Wd.int_any (z) (V) (E) w2 hV) rfl fun w4 hM => wl_fare kn ?_)
  simp (disch := omega) only [fx, pv, kx]
  refine wl_nil (κ3 _ _ ?_)
  refine wp_seq_k fun _ κ5 => wl_region (wl_give rfl (g_ld1 25 _ (b) (0) _ rfl (ld25 _ _ _ _ ((hM.get 1 rfl).cell 0 _ (rfl))) ?_))
  refine wl_fare kn ?_
  simp (disch := omega) only [fx, pv, kx]
  refine wl_give rfl (g_bsE3 _ _ _ (F) (e) (E) rfl rfl rfl hM fun w6 h_ => ?_)
  replace hM : Ms w0 w6 (blk (w4.heap.size) [.int .i64 (F), .int .i64 (e), .int .i64 (E)] 25 :: blk (w.heap.size) (Wd.nl (z)) 60 :: blk (b) ([.int .i64 (F)]) 25 :: R) := h_
  clear h_
  try simp only [nz]
  refine wl_give rfl (g_call 26 _ _ [.slice (some ⟨w4.heap.size, 0, none⟩) (3) (3)] (kf26 _ _) rfl ((or_any [F, e, E] rfl (Nat.le_of_ble_eq_true rfl) F2 hF hM).mono ?_))
  rintro e w7 ⟨rfl, h_⟩
  refine ⟨_, rfl, ?_⟩
  replace hM : Ms w0 w7 (blk (w4.heap.size) [.int .i64 (F), .int .i64 (e), .int .i64 (E)] 25 :: blk (w.heap.size) (Wd.nl (z)) 60 :: blk (b) ([.int .i64 (F)]) 25 :: R) := h_
  clear h_
  try simp only [nz]
  refine wl_give rfl (g_st1 25 _ _ (b) 0 (.int .i64 (F2)) _ 25 rfl rfl (hM.get 2 rfl) (show 0 < 1 by decide) rfl rfl size25 fun w8 t_ b_ => ?_)
  replace hM : Ms w0 w8 (blk (w4.heap.size) [.int .i64 (F), .int .i64 (e), .int .i64 (E)] 25 :: blk (w.heap.size) (Wd.nl (z)) 60 :: blk (b) ([.int .i64 (F2)]) 25 :: R) := hM.put 2 rfl t_ b_
  clear t_ b_
  try simp only [nz]
  refine wl_nil (κ5 _ _ ?_)
  refine wp_seq_k fun _ κ9 => wl_region (wl_fare kn ?_)
  simp (disch := omega) only [fx, pv, kx]
  refine wl_nil (κ9 _ _ ?_)
  refine wp_ret ?_
  go_ret
  exact ⟨rfl, (((hM.erase 0).erase 0).up 0 rfl)⟩
set_option maxHeartbeats 8000000 in
theorem less_any {w0 w : World} {R : List HP} {b c : Nat} (x y F V E F2 : Int) (hx : Wd.In64 x) (hy : Wd.In64 y) (hV : Hid (Wd.wh (x - y) = (V, E))) (hF : fnz [F, 0, E] = F2) (hM : Ms w0 w (blk b [.int .i64 F] 25 :: blk c [.func (.func 24) #[] #[.pointer (some ⟨b, 0, none⟩)]] 63 :: R)) : Calls Tryd.prog 27 #[.int .i64 x, .int .i64 y, .pointer (some ⟨c, 0, none⟩)] w fun e w' => e = .returned (.int .i64 V) ∧ Ms w0 w' (blk b [.int .i64 F2] 25 :: blk c [.func (.func 24) #[] #[.pointer (some ⟨b, 0, none⟩)]] 63 :: R) := by
  go_enter Tryd.func27, Tryd.ntmps27
  refine wp_seq_k fun _ κ1 => wl_region (wl_fare kn ?_)
  simp (disch := omega) only [fx, pv, kx]
  refine wl_nil (κ1 _ _ ?_)
  refine wp_seq_k fun _ κ2 => ?_
  refine wp_region_steps (by kernel_rfl) (by kernel_rfl) [8] [0, 0, 0, 0, 0, 0, 0, 0, 0, 1] [0, 1, 1, 1, 1, 0, 0, 0, 1, 1] (by kernel_rfl) (Pm := Unit) (fun π => [.func (.func 24) #[] #[.pointer (some ⟨b, 0, none⟩)], .int .i64 (x), .agg (Wd.nl (x)).toArray, .int .i64 (y), .agg (Wd.nl (y)).toArray, .tuple #[.agg (Wd.nl (x - y)).toArray, .int .i64 (0)], .agg (Wd.nl (x - y)).toArray, .int .i64 (0), .int .i64 (V), .int .i64 (V)]) (fun _ => by rfl) (fun j_ π wx => match j_ with | 0 => Ms w0 wx (blk (b) ([.int .i64 (F)]) 25 :: blk (c) ([.func (.func 24) #[] #[.pointer (some ⟨b, 0, none⟩)]]) 63 :: R) | _ => Ms w0 wx (blk (b) ([.int .i64 (F2)]) 25 :: blk (c) ([.func (.func 24) #[] #[.pointer (some ⟨b, 0, none⟩)]]) 63 :: R)) () hM.drew ?_ ?_ ?_
  · intro j_ k_ o_ hj_ ho_ π wx hM
    rcases j_ with _ | j_
    · obtain rfl := Option.some.inj hj_
      cases so ho_
      simp only [fullL, Act.put, st_a, st_s, st_0]
      change Ms _ _ _ at hM
      exact gw rfl (g_callc _ 24 [_, _] _ #[.pointer (some ⟨b, 0, none⟩)] _ rfl (kf24 _ _) rfl ((num_any (x - y) 0 F V E F2 hV hF hM).mono (fun e w' ⟨h1_, h2_⟩ => ⟨_, h1_, ⟨(), rfl, (fun _ _ _ => by first | rfl | trivial), h2_⟩⟩)))
    · simp at hj_
  · intro i_ o_ ho_ hi_ j_ hd_ hh_ hj_ π wx hM
    simp only [fullL, Act.put, st_a, st_s, st_0]
    rcases i_ with _ | _ | _ | _ | _ | _ | _ | _ | _ | _ | i_
    · cases so ho_
      rcases j_ with _ | _ | j_
      · change Ms _ _ _ at hM
        exact gw rfl (g_ld1 63 _ (c) (0) _ rfl (ld63 _ _ _ _ ((hM.get 1 rfl).cell 0 _ (rfl))) ⟨rfl, hM⟩)
      · exact absurd hh_ (by decide)
      · exact absurd hj_ (by simp)
    · cases so ho_
      exact gw rfl (g_move _ _ rfl ⟨rfl, hM⟩)
    · cases so ho_
      rcases j_ with _ | _ | j_
      · change Ms _ _ _ at hM
        exact gw rfl (g_call 29 _ _ [.int .i64 (x)] (kf29 _ _) rfl ((Wd.of_any (x) wx (hx)).mono (fun _ _ ⟨h1_, h2_⟩ => ⟨_, h1_, rfl, hM.call h2_⟩)))
      · change Ms _ _ _ at hM
        exact gw rfl (g_call 29 _ _ [.int .i64 (x)] (kf29 _ _) rfl ((Wd.of_any (x) wx (hx)).mono (fun _ _ ⟨h1_, h2_⟩ => ⟨_, h1_, rfl, hM.call h2_⟩)))
      · exact absurd hj_ (by simp)
    · cases so ho_
      exact gw rfl (g_move _ _ rfl ⟨rfl, hM⟩)
    · cases so ho_
      rcases j_ with _ | _ | j_
      · change Ms _ _ _ at hM
        exact gw rfl (g_call 29 _ _ [.int .i64 (y)] (kf29 _ _) rfl ((Wd.of_any (y) wx (hy)).mono (fun _ _ ⟨h1_, h2_⟩ => ⟨_, h1_, rfl, hM.call h2_⟩)))
      · change Ms _ _ _ at hM
        exact gw rfl (g_call 29 _ _ [.int .i64 (y)] (kf29 _ _) rfl ((Wd.of_any (y) wx (hy)).mono (fun _ _ ⟨h1_, h2_⟩ => ⟨_, h1_, rfl, hM.call h2_⟩)))
      · exact absurd hj_ (by simp)
    · cases so ho_
      rcases j_ with _ | _ | j_
      · change Ms _ _ _ at hM
        exact gw rfl (g_call 28 _ _ [.agg (Wd.nl (x)).toArray, .agg (Wd.nl (y)).toArray] (kf28 _ _) rfl ((Wd.sub_ok (x) (y) wx (Wd.In64.to _ hx) (Wd.In64.to _ hy) (by unfold Wd.In64 at hx hy; unfold Wd.In128; omega)).mono (fun _ _ ⟨h1_, h2_⟩ => ⟨_, h1_, rfl, hM.call h2_⟩)))
      · exact absurd hh_ (by decide)
      · exact absurd hj_ (by simp)
    · cases so ho_
      exact gw rfl (g_extract _ _ _ _ rfl rfl ⟨rfl, hM⟩)
    · cases so ho_
      exact gw rfl (g_extract _ _ _ _ rfl rfl ⟨rfl, hM⟩)
    · exact absurd (by decide) hi_
    · cases so ho_
      exact gw rfl (g_assign _ _ rfl ⟨rfl, hM⟩)
    · simp at ho_
  · simp only [fullL, Act.put, st_a, st_s, st_0]
    rintro ⟨⟩ w3 hM
    replace hM : Ms w0 w3 (blk (b) ([.int .i64 (F2)]) 25 :: blk (c) ([.func (.func 24) #[] #[.pointer (some ⟨b, 0, none⟩)]]) 63 :: R) := hM
    refine κ2 _ _ (wp_ret ?_)
    go_ret
    exact ⟨rfl, ((hM.up 1 rfl).up 1 rfl)⟩
set_option maxHeartbeats 8000000 in
theorem half_any (x y Q T : Int) (w : World) (hx : Wd.In64 x) (hy : Wd.In64 y) (hQ : Hid ((x + y) / 2 = Q)) (hT : Hid ((x + y) % 2 = T)) : Calls Tryd.prog 30 #[.int .i64 x, .int .i64 y] w fun e w' => e = .returned (.tuple #[.agg (Wd.nl Q).toArray, .int .i64 0]) ∧ Below w.heap.size w w' := by
  have hM := Ms.refl w
  go_enter Tryd.func30, Tryd.ntmps30
  refine wp_seq_k fun _ κ1 => wl_region (wl_give rfl (g_alloc 60 (Wd.nl (0)) Wd.zeroN ?_))
  intro w2 t_ b_
  replace hM := hM.new t_ b_
  clear t_ b_
  refine wl_fare kn ?_
  simp (disch := omega) only [fx, pv, kx]
  refine wl_nil (κ1 _ _ ?_)
  refine wp_seq_k fun _ κ3 => wl_region (wl_fare kn ?_)
  simp (disch := omega) only [fx, pv, kx]
  refine wl_give rfl (g_cM hM (kf29 _ _) (Wd.of_any (x) w2 (hx)) rfl fun w4 hM => wl_fare kn ?_)
  simp (disch := omega) only [fx, pv, kx]
  refine wl_give rfl (g_cM hM (kf29 _ _) (Wd.of_any (y) w4 (hy)) rfl fun w5 hM => ?_)
  try simp only [nz]
  refine wl_give rfl (g_cM hM (kf52 _ _) (Wd.add_ok (x) (y) w5 (Wd.In64.to _ hx) (Wd.In64.to _ hy) (by unfold Wd.In64 at hx hy; unfold Wd.In128; omega)) rfl fun w6 hM => wl_fare kn ?_)
  simp (disch := omega) only [fx, pv, kx]
  refine wl_give rfl (g_alloc 60 (Wd.nl (0)) Wd.zeroN fun w7 t_ b_ => ?_)
  replace hM := hM.new t_ b_
  clear t_ b_
  try simp only [nz]
  refine wl_give rfl (g_store_all 60 _ _ (w6.heap.size) (Wd.nl (x + y)) _ 60 rfl rfl (hM.get 0 rfl) (Wd.szN _) (rfl) (Wd.one_nl _) fun w8 t_ b_ => ?_)
  replace hM : Ms w w8 [blk (w6.heap.size) (Wd.nl (x + y)) 60, blk (w.heap.size) (Wd.nl (0)) 60] := hM.put 0 rfl t_ b_
  clear t_ b_
  refine wl_fare kn ?_
  simp (disch := omega) only [fx, pv, kx]
  refine wl_nil (κ3 _ _ ?_)
  refine wp_seq_k fun _ κ9 => wl_region (wl_give rfl (g_load_all 60 _ (w6.heap.size) (Wd.nl (x + y)) 60 _ rfl (hM.get 0 rfl) Tryd.underlying60 rfl (Wd.szN _) ?_))
  try simp only [nz]
  refine wl_give rfl (g_cM hM (kf53 _ _) (Wd.div_any (x + y) 2 w8 (by unfold Wd.In64 at hx hy; unfold Wd.In128; omega) (by decide) (by decide) Q T hQ hT) rfl fun w10 hM => wl_fare kn ?_)
  simp (disch := omega) only [fx, pv, kx]
  refine wl_give rfl (g_alloc 60 (Wd.nl (0)) Wd.zeroN fun w11 t_ b_ => ?_)
  replace hM := hM.new t_ b_
  clear t_ b_
  try simp only [nz]
  refine wl_give rfl (g_store_all 60 _ _ (w10.heap.size) (Wd.nl (Q)) _ 60 rfl rfl (hM.get 0 rfl) (Wd.szN _) (rfl) (Wd.one_nl _) fun w12 t_ b_ => ?_)
  replace hM : Ms w w12 [blk (w10.heap.size) (Wd.nl (Q)) 60, blk (w6.heap.size) (Wd.nl (x + y)) 60, blk (w.heap.size) (Wd.nl (0)) 60] := hM.put 0 rfl t_ b_
  clear t_ b_
  refine wl_fare kn ?_
  simp (disch := omega) only [fx, pv, kx]
  refine wl_nil (κ9 _ _ ?_)
  refine wp_seq_k fun _ κ13 => wl_region (wl_give rfl (g_load_all 60 _ (w10.heap.size) (Wd.nl (Q)) 60 _ rfl (hM.get 0 rfl) Tryd.underlying60 rfl (Wd.szN _) ?_))
  refine wl_fare kn ?_
  simp (disch := omega) only [fx, pv, kx]
  refine wl_give rfl (g_store_all 60 _ _ (w.heap.size) (Wd.nl (Q)) _ 60 rfl rfl (hM.get 2 rfl) (Wd.szN _) (rfl) (Wd.one_nl _) fun w14 t_ b_ => ?_)
  replace hM : Ms w w14 [blk (w10.heap.size) (Wd.nl (Q)) 60, blk (w6.heap.size) (Wd.nl (x + y)) 60, blk (w.heap.size) (Wd.nl (Q)) 60] := hM.put 2 rfl t_ b_
  clear t_ b_
  refine wl_fare kn ?_
  simp (disch := omega) only [fx, pv, kx]
  refine wl_nil (κ13 _ _ ?_)
  refine wp_ret ?_
  (try simp only [Exit.inBlock, Exit.then])
  exact bodyPost_ret (results_blk_tmp rfl _ (Wd.nl (Q)) (.int .i64 (0)) _ rfl rfl (hM.get 2 rfl) Tryd.underlying60 rfl (Wd.szN _)) rfl ⟨rfl, hM.below⟩
set_option maxHeartbeats 8000000 in
theorem bound_any (d p r U T G E : Int) (w : World) (hd : Wd.In64 d) (hp : Wd.In64 p) (hr : 0 ≤ r ∧ r ≤ 100000000) (hU : Hid ((d + 1) / 2 = U)) (hT : Hid ((d + 1) % 2 = T)) (hg : Hid (Wd.grw p (2 * r) = (G, E))) (hG : Wd.In64 G) : Calls Tryd.prog 31 #[.int .i64 d, .int .i64 p, .int .i64 r] w fun e w' => e = .returned (.tuple #[.agg (Wd.nl (U + G + 2)).toArray, .int .i64 E]) ∧ Below w.heap.size w w' := by
  have hM := Ms.refl w
  go_enter Tryd.func31, Tryd.ntmps31
  refine wp_seq_k fun _ κ1 => wl_region (wl_give rfl (g_alloc 60 (Wd.nl (0)) Wd.zeroN ?_))
  intro w2 t_ b_
  replace hM := hM.new t_ b_
  clear t_ b_
  refine wl_fare kn ?_
  simp (disch := omega) only [fx, pv, kx]
  refine wl_nil (κ1 _ _ ?_)
  refine wp_seq_k fun _ κ3 => wl_region (wl_fare kn ?_)
  simp (disch := omega) only [fx, pv, kx]
  refine wl_give rfl (g_cM hM (kf30 _ _) (half_any (d) (1) (U) (T) w2 hd (show Wd.In64 1 from ⟨by decide, by decide⟩) hU hT) rfl fun w4 hM => wl_fare kn ?_)
  simp (disch := omega) only [fx, pv, kx]
  refine wl_give rfl (g_alloc 60 (Wd.nl (0)) Wd.zeroN fun w5 t_ b_ => ?_)
  replace hM := hM.new t_ b_
  clear t_ b_
  try simp only [nz]
  refine wl_give rfl (g_store_all 60 _ _ (w4.heap.size) (Wd.nl (U)) _ 60 rfl rfl (hM.get 0 rfl) (Wd.szN _) (rfl) (Wd.one_nl _) fun w6 t_ b_ => ?_)
  replace hM : Ms w w6 [blk (w4.heap.size) (Wd.nl (U)) 60, blk (w.heap.size) (Wd.nl (0)) 60] := hM.put 0 rfl t_ b_
  clear t_ b_
  refine wl_fare kn ?_
  simp (disch := omega) only [fx, pv, kx]
  refine wl_nil (κ3 _ _ ?_)
  refine wp_seq_k fun _ κ7 => wl_region (wl_fare kn ?_)
  simp (disch := omega) only [fx, pv, kx]
  refine wl_give rfl (g_imul 2 _ _ .i64 (2) (r) (2 * r) rfl rfl (by rw [IntKind.wrap_i64]; omega) ?_)
  try simp only [nz]
  refine wl_give rfl (g_cM hM (kf54 _ _) (Wd.grown_any (p) (2 * r) (G) (E) w6 hp (show Wd.In64 (2 * r) from ⟨by omega, by omega⟩) hg) rfl fun w8 hM => wl_fare kn ?_)
  simp (config := { maxSteps := 10000000 }) (disch := omega) only [fx, pv, kx]
  refine wl_nil (κ7 _ _ ?_)
  refine wp_seq_k fun _ κ9 => ?_
  refine wp_region_steps (by kernel_rfl) (by kernel_rfl) [7, 8] [0, 0, 0, 0, 0, 0, 0, 0, 1, 2] [1, 1, 1, 1, 1, 1, 2, 1, 2, 2] (by kernel_rfl) (Pm := Nat) (fun π => [.agg (Wd.nl (U)).toArray, .int .i64 (G), .agg (Wd.nl (G)).toArray, .tuple #[.agg (Wd.nl (U + G)).toArray, .int .i64 (0)], .tuple #[.agg (Wd.nl (U + G)).toArray, .int .i64 (0)], .agg (Wd.nl (U + G)).toArray, .int .i64 (0), .pointer (some ⟨π, 0, none⟩), undef, .int .i64 (0)]) (fun _ => by rfl) (fun j_ π wx => match j_ with | 0 => Ms w wx [blk (w4.heap.size) (Wd.nl (U)) 60, blk (w.heap.size) (Wd.nl (0)) 60] | 1 => Ms w wx [blk (π) (Wd.nl (0)) 60, blk (w4.heap.size) (Wd.nl (U)) 60, blk (w.heap.size) (Wd.nl (0)) 60] | _ => Ms w wx [blk (π) (Wd.nl (U + G)) 60, blk (w4.heap.size) (Wd.nl (U)) 60, blk (w.heap.size) (Wd.nl (0)) 60]) (0) hM.drew ?_ ?_ ?_
  · intro j_ k_ o_ hj_ ho_ π wx hM
    rcases j_ with _ | _ | j_
    · obtain rfl := Option.some.inj hj_
      cases so ho_
      simp only [fullL, Act.put, st_a, st_s, st_0]
      change Ms _ _ _ at hM
      exact gw rfl (g_alloc 60 (Wd.nl (0)) Wd.zeroN (fun w' t_ b_ => ⟨(wx.heap.size), rfl, fun i h1 h2 => by rcases i with _ | _ | _ | _ | _ | _ | _ | _ | _ | _ | i <;> first | rfl | trivial | exact absurd rfl h2 | exact absurd h1 (by decide), hM.new t_ b_⟩))
    · obtain rfl := Option.some.inj hj_
      cases so ho_
      simp only [fullL, Act.put, st_a, st_s, st_0]
      change Ms _ _ _ at hM
      exact gw rfl (g_store_all 60 _ _ (π) (Wd.nl (U + G)) _ 60 rfl rfl (hM.get 0 rfl) (Wd.szN _) (rfl) (Wd.one_nl _) (fun w' t_ b_ => ⟨(π), rfl, fun i h1 h2 => by rcases i with _ | _ | _ | _ | _ | _ | _ | _ | _ | _ | i <;> first | rfl | trivial | exact absurd rfl h2 | exact absurd h1 (by decide), hM.put 0 rfl t_ b_⟩))
    · simp at hj_
  · intro i_ o_ ho_ hi_ j_ hd_ hh_ hj_ π wx hM
    simp only [fullL, Act.put, st_a, st_s, st_0]
    rcases i_ with _ | _ | _ | _ | _ | _ | _ | _ | _ | _ | i_
    · cases so ho_
      rcases j_ with _ | _ | _ | j_
      · change Ms _ _ _ at hM
        exact gw rfl (g_load_all 60 _ (w4.heap.size) (Wd.nl (U)) 60 _ rfl (hM.get 0 rfl) Tryd.underlying60 rfl (Wd.szN _) ⟨rfl, hM⟩)
      · change Ms _ _ _ at hM
        exact gw rfl (g_load_all 60 _ (w4.heap.size) (Wd.nl (U)) 60 _ rfl (hM.get 1 rfl) Tryd.underlying60 rfl (Wd.szN _) ⟨rfl, hM⟩)
      · exact absurd hh_ (by decide)
      · exact absurd hj_ (by simp)
    · cases so ho_
      exact gw rfl (g_move _ _ rfl ⟨rfl, hM⟩)
    · cases so ho_
      rcases j_ with _ | _ | _ | j_
      · change Ms _ _ _ at hM
        exact gw rfl (g_call 29 _ _ [.int .i64 (G)] (kf29 _ _) rfl ((Wd.of_any (G) wx (hG)).mono (fun _ _ ⟨h1_, h2_⟩ => ⟨_, h1_, rfl, hM.call h2_⟩)))
      · change Ms _ _ _ at hM
        exact gw rfl (g_call 29 _ _ [.int .i64 (G)] (kf29 _ _) rfl ((Wd.of_any (G) wx (hG)).mono (fun _ _ ⟨h1_, h2_⟩ => ⟨_, h1_, rfl, hM.call h2_⟩)))
      · exact absurd hh_ (by decide)
      · exact absurd hj_ (by simp)
    · cases so ho_
      rcases j_ with _ | _ | _ | j_
      · change Ms _ _ _ at hM
        exact gw rfl (g_call 52 _ _ [.agg (Wd.nl (U)).toArray, .agg (Wd.nl (G)).toArray] (kf52 _ _) rfl ((Wd.add_ok (U) (G) wx (by have := hU.out; unfold Wd.In64 at hd hG; unfold Wd.In128; omega) (by have := hU.out; unfold Wd.In64 at hd hG; unfold Wd.In128; omega) (by have := hU.out; unfold Wd.In64 at hd hG; unfold Wd.In128; omega)).mono (fun _ _ ⟨h1_, h2_⟩ => ⟨_, h1_, rfl, hM.call h2_⟩)))
      · change Ms _ _ _ at hM
        exact gw rfl (g_call 52 _ _ [.agg (Wd.nl (U)).toArray, .agg (Wd.nl (G)).toArray] (kf52 _ _) rfl ((Wd.add_ok (U) (G) wx (by have := hU.out; unfold Wd.In64 at hd hG; unfold Wd.In128; omega) (by have := hU.out; unfold Wd.In64 at hd hG; unfold Wd.In128; omega) (by have := hU.out; unfold Wd.In64 at hd hG; unfold Wd.In128; omega)).mono (fun _ _ ⟨h1_, h2_⟩ => ⟨_, h1_, rfl, hM.call h2_⟩)))
      · exact absurd hh_ (by decide)
      · exact absurd hj_ (by simp)
    · cases so ho_
      exact gw rfl (g_move _ _ rfl ⟨rfl, hM⟩)
    · cases so ho_
      exact gw rfl (g_extract _ _ _ _ rfl rfl ⟨rfl, hM⟩)
    · cases so ho_
      exact gw rfl (g_extract _ _ _ _ rfl rfl ⟨rfl, hM⟩)
    · exact absurd (by decide) hi_
    · exact absurd (by decide) hi_
    · cases so ho_
      exact gw rfl (g_assign _ _ rfl ⟨rfl, hM⟩)
    · simp at ho_
  · simp only [fullL, Act.put, st_a, st_s, st_0]
    rintro p11 w10 hM
    replace hM : Ms w w10 [blk (p11) (Wd.nl (U + G)) 60, blk (w4.heap.size) (Wd.nl (U)) 60, blk (w.heap.size) (Wd.nl (0)) 60] := hM
    refine κ9 _ _ (wp_seq_k fun _ κ12 => ?_)
    refine wp_region_steps (by kernel_rfl) (by kernel_rfl) [6] [0, 0, 0, 0, 0, 0, 0] [0, 0, 0, 0, 0, 1, 1] (by kernel_rfl) (Pm := Unit) (fun π => [.agg (Wd.nl (U + G)).toArray, .agg (Wd.nl (2)).toArray, .tuple #[.agg (Wd.nl (U + G + 2)).toArray, .int .i64 (0)], .tuple #[.agg (Wd.nl (U + G + 2)).toArray, .int .i64 (0)], .agg (Wd.nl (U + G + 2)).toArray, .int .i64 (0), undef]) (fun _ => by rfl) (fun j_ π wx => match j_ with | 0 => Ms w wx [blk (p11) (Wd.nl (U + G)) 60, blk (w4.heap.size) (Wd.nl (U)) 60, blk (w.heap.size) (Wd.nl (0)) 60] | _ => Ms w wx [blk (p11) (Wd.nl (U + G + 2)) 60, blk (w4.heap.size) (Wd.nl (U)) 60, blk (w.heap.size) (Wd.nl (0)) 60]) () hM.drew ?_ ?_ ?_
    · intro j_ k_ o_ hj_ ho_ π wx hM
      rcases j_ with _ | j_
      · obtain rfl := Option.some.inj hj_
        cases so ho_
        simp only [fullL, Act.put, st_a, st_s, st_0]
        change Ms _ _ _ at hM
        exact gw rfl (g_store_all 60 _ _ (p11) (Wd.nl (U + G + 2)) _ 60 rfl rfl (hM.get 0 rfl) (Wd.szN _) (rfl) (Wd.one_nl _) (fun w' t_ b_ => ⟨(), rfl, (fun _ _ _ => by first | rfl | trivial), hM.put 0 rfl t_ b_⟩))
      · simp at hj_
    · intro i_ o_ ho_ hi_ j_ hd_ hh_ hj_ π wx hM
      simp only [fullL, Act.put, st_a, st_s, st_0]
      rcases i_ with _ | _ | _ | _ | _ | _ | _ | i_
      · cases so ho_
        rcases j_ with _ | _ | j_
        · change Ms _ _ _ at hM
          exact gw rfl (g_load_all 60 _ (p11) (Wd.nl (U + G)) 60 _ rfl (hM.get 0 rfl) Tryd.underlying60 rfl (Wd.szN _) ⟨rfl, hM⟩)
        · exact absurd hh_ (by decide)
        · exact absurd hj_ (by simp)
      · cases so ho_
        rcases j_ with _ | _ | j_
        · change Ms _ _ _ at hM
          exact gw rfl (g_call 29 _ _ [.int .i64 (2)] (kf29 _ _) rfl ((Wd.of_any (2) wx (show Wd.In64 2 from ⟨by decide, by decide⟩)).mono (fun _ _ ⟨h1_, h2_⟩ => ⟨_, h1_, rfl, hM.call h2_⟩)))
        · exact absurd hh_ (by decide)
        · exact absurd hj_ (by simp)
      · cases so ho_
        rcases j_ with _ | _ | j_
        · change Ms _ _ _ at hM
          exact gw rfl (g_call 52 _ _ [.agg (Wd.nl (U + G)).toArray, .agg (Wd.nl (2)).toArray] (kf52 _ _) rfl ((Wd.add_ok (U + G) (2) wx (by have := hU.out; unfold Wd.In64 at hd hG; unfold Wd.In128; omega) (by have := hU.out; unfold Wd.In64 at hd hG; unfold Wd.In128; omega) (by have := hU.out; unfold Wd.In64 at hd hG; unfold Wd.In128; omega)).mono (fun _ _ ⟨h1_, h2_⟩ => ⟨_, h1_, rfl, hM.call h2_⟩)))
        · exact absurd hh_ (by decide)
        · exact absurd hj_ (by simp)
      · cases so ho_
        exact gw rfl (g_move _ _ rfl ⟨rfl, hM⟩)
      · cases so ho_
        exact gw rfl (g_extract _ _ _ _ rfl rfl ⟨rfl, hM⟩)
      · cases so ho_
        exact gw rfl (g_extract _ _ _ _ rfl rfl ⟨rfl, hM⟩)
      · exact absurd (by decide) hi_
      · simp at ho_
    · simp only [fullL, Act.put, st_a, st_s, st_0]
      rintro ⟨⟩ w13 hM
      replace hM : Ms w w13 [blk (p11) (Wd.nl (U + G + 2)) 60, blk (w4.heap.size) (Wd.nl (U)) 60, blk (w.heap.size) (Wd.nl (0)) 60] := hM
      refine κ12 _ _ (wp_seq_k fun _ κ14 => ?_)
      refine wp_region_steps (by kernel_rfl) (by kernel_rfl) [3, 4, 5] [0, 0, 0, 0, 1, 2, 3] [2, 0, 0, 1, 2, 3, 3] (by kernel_rfl) (Pm := Nat) (fun π => [.agg (Wd.nl (U + G + 2)).toArray, .int .i64 (0), .int .i64 (E), .slice (some ⟨π, 0, none⟩) (2) (2), .int .i64 (E), undef, .int .i64 (E)]) (fun _ => by rfl) (fun j_ π wx => match j_ with | 0 => Ms w wx [blk (p11) (Wd.nl (U + G + 2)) 60, blk (w4.heap.size) (Wd.nl (U)) 60, blk (w.heap.size) (Wd.nl (0)) 60] | 1 => Ms w wx [blk (π) [.int .i64 (0), .int .i64 (E)] 25, blk (p11) (Wd.nl (U + G + 2)) 60, blk (w4.heap.size) (Wd.nl (U)) 60, blk (w.heap.size) (Wd.nl (0)) 60] | 2 => Ms w wx [blk (π) [.int .i64 (0), .int .i64 (E)] 25, blk (p11) (Wd.nl (U + G + 2)) 60, blk (w4.heap.size) (Wd.nl (U)) 60, blk (w.heap.size) (Wd.nl (0)) 60] | _ => Ms w wx [blk (π) [.int .i64 (0), .int .i64 (E)] 25, blk (p11) (Wd.nl (U + G + 2)) 60, blk (w4.heap.size) (Wd.nl (U)) 60, blk (w.heap.size) (Wd.nl (U + G + 2)) 60]) (0) hM.drew ?_ ?_ ?_
      · intro j_ k_ o_ hj_ ho_ π wx hM
        rcases j_ with _ | _ | _ | j_
        · obtain rfl := Option.some.inj hj_
          cases so ho_
          simp only [fullL, Act.put, st_a, st_s, st_0]
          change Ms _ _ _ at hM
          exact gw rfl (g_bsE2 _ _ (0) (E) rfl rfl hM (fun  w' h_ => ⟨(wx.heap.size), rfl, fun i h1 h2 => by rcases i with _ | _ | _ | _ | _ | _ | _ | i <;> first | rfl | trivial | exact absurd rfl h2 | exact absurd h1 (by decide), h_⟩))
        · obtain rfl := Option.some.inj hj_
          cases so ho_
          simp only [fullL, Act.put, st_a, st_s, st_0]
          change Ms _ _ _ at hM
          exact gw rfl (g_call 26 _ _ [.slice (some ⟨π, 0, none⟩) (2) (2)] (kf26 _ _) rfl ((or_any [0, E] rfl (Nat.le_of_ble_eq_true rfl) E ((fnz_0 _).trans (fnz_1 _)) hM).mono (fun e w' ⟨h1_, h2_⟩ => ⟨_, h1_, ⟨(π), rfl, fun i h1 h2 => by rcases i with _ | _ | _ | _ | _ | _ | _ | i <;> first | rfl | trivial | exact absurd rfl h2 | exact absurd h1 (by decide), h2_⟩⟩)))
        · obtain rfl := Option.some.inj hj_
          cases so ho_
          simp only [fullL, Act.put, st_a, st_s, st_0]
          change Ms _ _ _ at hM
          exact gw rfl (g_store_all 60 _ _ (w.heap.size) (Wd.nl (U + G + 2)) _ 60 rfl rfl (hM.get 3 rfl) (Wd.szN _) (rfl) (Wd.one_nl _) (fun w' t_ b_ => ⟨(π), rfl, fun i h1 h2 => by rcases i with _ | _ | _ | _ | _ | _ | _ | i <;> first | rfl | trivial | exact absurd rfl h2 | exact absurd h1 (by decide), hM.put 3 rfl t_ b_⟩))
        · simp at hj_
      · intro i_ o_ ho_ hi_ j_ hd_ hh_ hj_ π wx hM
        simp only [fullL, Act.put, st_a, st_s, st_0]
        rcases i_ with _ | _ | _ | _ | _ | _ | _ | i_
        · cases so ho_
          rcases j_ with _ | _ | _ | _ | j_
          · change Ms _ _ _ at hM
            exact gw rfl (g_load_all 60 _ (p11) (Wd.nl (U + G + 2)) 60 _ rfl (hM.get 0 rfl) Tryd.underlying60 rfl (Wd.szN _) ⟨rfl, hM⟩)
          · change Ms _ _ _ at hM
            exact gw rfl (g_load_all 60 _ (p11) (Wd.nl (U + G + 2)) 60 _ rfl (hM.get 1 rfl) Tryd.underlying60 rfl (Wd.szN _) ⟨rfl, hM⟩)
          · change Ms _ _ _ at hM
            exact gw rfl (g_load_all 60 _ (p11) (Wd.nl (U + G + 2)) 60 _ rfl (hM.get 1 rfl) Tryd.underlying60 rfl (Wd.szN _) ⟨rfl, hM⟩)
          · exact absurd hh_ (by decide)
          · exact absurd hj_ (by simp)
        · cases so ho_
          exact gw rfl (g_move _ _ rfl ⟨rfl, hM⟩)
        · cases so ho_
          exact gw rfl (g_move _ _ rfl ⟨rfl, hM⟩)
        · exact absurd (by decide) hi_
        · exact absurd (by decide) hi_
        · exact absurd (by decide) hi_
        · cases so ho_
          exact gw rfl (g_assign _ _ rfl ⟨rfl, hM⟩)
        · simp at ho_
      · simp only [fullL, Act.put, st_a, st_s, st_0]
        rintro p16 w15 hM
        replace hM : Ms w w15 [blk (p16) [.int .i64 (0), .int .i64 (E)] 25, blk (p11) (Wd.nl (U + G + 2)) 60, blk (w4.heap.size) (Wd.nl (U)) 60, blk (w.heap.size) (Wd.nl (U + G + 2)) 60] := hM
        refine κ14 _ _ (wp_ret ?_)
        (try simp only [Exit.inBlock, Exit.then])
        exact bodyPost_ret (results_blk_tmp rfl _ (Wd.nl (U + G + 2)) (.int .i64 (E)) _ rfl rfl (hM.get 3 rfl) Tryd.underlying60 rfl (Wd.szN _)) rfl ⟨rfl, hM.below⟩
end Go.Proofs.YtpenicjlpiechaaDoor
