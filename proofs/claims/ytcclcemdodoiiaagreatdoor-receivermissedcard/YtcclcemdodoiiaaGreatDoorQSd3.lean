/- What sender.New, (*Sender).Send and (*Sender).Renew answer, and what they do to a sender. -/
import Derived.Test.YtcclcemdodoiiaaGreatDoorQRunG
import Derived.Test.YtcclcemdodoiiaaGreatDoorQSd2
import Derived.Test.YtcclcemdodoiiaaGreatDoorQPl2
import Derived.WalkKit
import Derived.WalkSpells
import Derived.WalkLawsBesides
namespace Go.Proofs.YtcclcemdodoiiaaGreatDoor
set_option maxRecDepth 10000
open Go Go.RowKit
set_option linter.unusedVariables false
set_option linter.unusedSimpArgs false

theorem mind_op {w0 w : World} {R : List HP} {p q g n d a m : Nat} {s L : Ky} {P : Pl} {k : Ky} {ks : List Ky} (hM : Ms w0 w (blk (p) (snc (s) (P) (k) (.pointer (some ⟨q, 0, none⟩)) (.slice (some ⟨g, 0, none⟩) (d) (d))) 115 :: wk q n L (a) m :: blk (g) (kcs (ks)) 23 :: pu (Mi n d (a) L ks) :: R)) (c : Int) (i : Nat) (hc : c = (i : Int)) (hL : Shut (tg s chainW = L)) (hT : Tabs w0) (hi : i ≤ n) (hn : n ≤ 1024) (ha : a ≤ i + 1) (hd : 2 ≤ d) (hd2 : d ≤ 1000) :
    Calls Tryz.prog 50 #[.pointer (some ⟨p, 0, none⟩), .int .i64 c] w fun e w' => ∃ m' ks', e = .returned (.tuple #[]) ∧ Ms w0 w' (blk (p) (snc (s) (P) (k) (.pointer (some ⟨q, 0, none⟩)) (.slice (some ⟨g, 0, none⟩) (d) (d))) 115 :: wk q n L (i + 1) m' :: blk (g) (kcs (ks')) 23 :: pu (Mi n d (i + 1) L ks') :: R) := by
  subst hc
  cases hL with | mk hL =>
  subst hL
  obtain ⟨hmi, h1⟩ := Ms.unpu (hM.up 3 rfl)
  refine (mind_any i (sv_mk h1 hmi) hT hi hn (by omega) hd hd2).mono ?_
  rintro e w' ⟨rfl, h2⟩
  obtain ⟨m', ks', h3, h4⟩ := sv_open h2
  rw [show max a (i + 1) = i + 1 by omega] at h3 h4
  exact ⟨m', ks', rfl, (Ms.mkpu h3 h4).down 3 rfl⟩
theorem key_op {w0 w : World} {R : List HP} {p q g n d a m : Nat} {s L : Ky} {P : Pl} {k : Ky} {ks : List Ky} (hM : Ms w0 w (blk (p) (snc (s) (P) (k) (.pointer (some ⟨q, 0, none⟩)) (.slice (some ⟨g, 0, none⟩) (d) (d))) 115 :: wk q n L (a) m :: blk (g) (kcs (ks)) 23 :: pu (Mi n d (a) L ks) :: R)) (c : Int) (i : Nat) (hc : c = (i : Int)) (hL : Shut (tg s chainW = L)) (h1 : i < a) (h2 : a ≤ i + d) (hd : 0 < d) (K : Ky) (hK : Shut (wl (n - i) L = K)) :
    Calls Tryz.prog 51 #[.pointer (some ⟨p, 0, none⟩), .int .i64 c] w fun e w' => e = .returned (.agg (kc K).toArray) ∧ Below w.heap.size w w' := by
  subst hc
  cases hL with | mk hL =>
  subst hL
  obtain ⟨hmi, h3⟩ := Ms.unpu (hM.up 3 rfl)
  exact skey_any i (sv_mk h3 hmi) h1 h2 hd K hK
theorem last_op {w0 w : World} {R : List HP} {p q g n d a m : Nat} {s L : Ky} {P : Pl} {k : Ky} {ks : List Ky} (hM : Ms w0 w (blk (p) (snc (s) (P) (k) (.pointer (some ⟨q, 0, none⟩)) (.slice (some ⟨g, 0, none⟩) (d) (d))) 115 :: wk q n L (a) m :: blk (g) (kcs (ks)) 23 :: pu (Mi n d (a) L ks) :: R)) (l : Int) (hl : Shut (l + 1 = (a : Int))) (ha : 1 ≤ a) (ha2 : a ≤ 2000) : Calls Tryz.prog 53 #[.pointer (some ⟨p, 0, none⟩)] w fun e w' => e = .returned (.int .i64 l) ∧ Below w.heap.size w w' := by
  obtain ⟨b, rfl⟩ : ∃ b : Nat, l = b := ⟨l.toNat, by have := hl.out; omega⟩
  exact last_a (b := b) w (hM.get 0 rfl) (wat_any (hM.up 1 rfl)) ⟨by rw [wrap_id _ (by omega) (by omega)]; have := hl.out; omega⟩
theorem sn_seal {w0 w : World} {R : List HP} {p q g n d a m : Nat} {s L : Ky} {P : Pl} {ks : List Ky} {l : Int} (hM : Ms w0 w (blk (p) (snc (s) (P) ((kyk s P 0)) (.pointer (some ⟨q, 0, none⟩)) (.slice (some ⟨g, 0, none⟩) (d) (d))) 115 :: wk q n L (a) m :: blk (g) (kcs (ks)) 23 :: pu (Mi n d (a) L ks) :: R)) (hL : Shut (tg s chainW = L)) (hP : POk P) (hn : Shut (P.ct = (n : Int))) (hd : Shut (P.dl + 1 = (d : Int))) (hl : Shut (l + 1 = (a : Int))) (h2 : 0 ≤ l) (h3 : l ≤ P.ct) : Ms w0 w (sn p s P l :: R) := by
  cases hL with | mk hL =>
  subst hL
  obtain ⟨hmi, h1⟩ := Ms.unpu (hM.up 3 rfl)
  have e1 : P.ct.toNat = n := by have := hn.out; omega
  have e2 : P.dl.toNat + 1 = d := by have := hd.out; omega
  have e3 : l.toNat + 1 = a := by have := hl.out; omega
  refine sn_mk (q := q) (g := g) ?_ hP h2 h3
  rw [e1, e2, e3]
  exact sv_mk h1 hmi
theorem sn_opened {w0 w : World} {R : List HP} {p : Nat} {s : Ky} {P : Pl} {l : Int} (h : Ms w0 w (sn p s P l :: R)) : ∃ (q g n d a m : Nat) (L : Ky) (ks : List Ky), Shut (tg s chainW = L) ∧ POk P ∧ Shut (P.ct = (n : Int)) ∧ Shut (P.dl + 1 = (d : Int)) ∧ Shut (l + 1 = (a : Int)) ∧ 0 ≤ l ∧ l ≤ P.ct ∧ Ms w0 w (blk (p) (snc (s) (P) ((kyk s P 0)) (.pointer (some ⟨q, 0, none⟩)) (.slice (some ⟨g, 0, none⟩) (d) (d))) 115 :: wk q n L (a) m :: blk (g) (kcs (ks)) 23 :: pu (Mi n d (a) L ks) :: R) := by
  obtain ⟨q, g, ⟨h1, h2, h3⟩, h⟩ := sn_open h
  obtain ⟨m, ks, hmi, h⟩ := sv_open h
  refine ⟨q, g, P.ct.toNat, P.dl.toNat + 1, l.toNat + 1, m, _, ks, ⟨rfl⟩, h1, ⟨by omega⟩, ⟨by omega⟩, ⟨by omega⟩, h2, h3, (Ms.mkpu hmi h).down 3 rfl⟩
theorem wnew_v (s : Ky) (c : Int) (n : Nat) (hc : c = (n : Int)) (L : Ky) (w0 w : World) (R : List HP) (hM : Ms w0 w R) (hT : Tabs w0) (h1 : 1 ≤ n) (h2 : n ≤ 1024) (hL : Shut (tg s ⟨#[99, 104, 97, 105, 110]⟩ = L)) : Calls Tryz.prog 49 #[.agg (kc s).toArray, .int .i64 c] w fun e w' => ∃ p, e = .returned (.tuple #[.pointer (some ⟨p, 0, none⟩), .int .i64 0]) ∧ Ms w0 w' (wk p n L 0 1 :: R) := by
  subst hc
  exact wnew_any s n L w0 w R hM hT h1 h2 hL
set_option maxHeartbeats 4000000 in
theorem snew_any (s : Ky) (P : Pl) (w0 w : World) (R : List HP) (hM : Ms w0 w R) (hT : Tabs w0) (hP : POk P) : Calls Tryz.prog 25 #[.agg (kc s).toArray, .agg (plc P).toArray] w fun e w' => ∃ p, e = .returned (.tuple #[.pointer (some ⟨p, 0, none⟩), .int .i64 0]) ∧ Ms w0 w' (sn p s P 0 :: R) := by
  obtain ⟨n, hn⟩ : ∃ n : Nat, Shut (P.ct = (n : Int)) := ⟨P.ct.toNat, ⟨by omega⟩⟩
  obtain ⟨d, hd⟩ : ∃ d : Nat, Shut (P.dl + 1 = (d : Int)) := ⟨P.dl.toNat + 1, ⟨by omega⟩⟩
  obtain ⟨L, hL0⟩ : ∃ L, tg s chainW = L := ⟨_, rfl⟩
  have hL : Shut (tg s chainW = L) := ⟨hL0⟩
  have b1 : 1 ≤ n ∧ n ≤ 1024 := by have := hn.out; omega
  have b2 : 2 ≤ d ∧ d ≤ 17 := by have := hd.out; omega
  have hdl : Shut (IntKind.i64.wrap (P.dl + 1) = P.dl + 1) := ⟨wrap_id _ (by omega) (by omega)⟩
  have hK0 : Shut (wl (n - 0) L = kyk s P 0) := ⟨by have e := kyk_nat b1.1 b1.2 hn.out (s := s) 0 (by omega); rw [hL0] at e; exact e.symm⟩
  go_enter Tryz.func25, Tryz.ntmps25
  refine wp_seq_k fun _ κ1 => wl_region (wl_give rfl (g_box 23 _ (kc (s)) rfl ?_))
  intro w2 t_ b_
  replace hM := hM.new t_ b_
  clear t_ b_
  try simp only [nz]
  refine wl_give rfl (g_box 25 _ (plc (P)) rfl fun w3 t_ b_ => ?_)
  replace hM := hM.new t_ b_
  clear t_ b_
  refine wl_fare kn ?_
  simp (disch := omega) only [fx, pv, kx]
  refine wl_nil (κ1 _ _ ?_)
  refine wp_seq_k fun _ κ4 => wp_seq_k fun _ κ5 => wl_region (wl_give rfl (g_load_all 25 _ (w2.heap.size) (plc (P)) 25 _ rfl (hM.get 0 rfl) Tryz.underlying25 rfl (szPl _) ?_))
  try simp only [nz]
  refine wl_give rfl (g_cM hM (kf11 _ _) (may_yes P w3 hP) rfl fun w6 hM => wl_fare kn ?_)
  simp (disch := omega) only [fx, pv, kx]
  refine wl_nil (κ5 _ _ ?_)
  refine wp_cond_false rfl (wp_skip ?_)
  refine κ4 _ _ (wp_seq_k fun _ κ7 => ?_)
  refine wl_region (wl_give rfl (g_load_all 23 _ (w.heap.size) (kc (s)) 23 _ rfl (hM.get 1 rfl) Tryz.underlying23 rfl (szK _) ?_))
  refine wl_fare kn ?_
  simp (disch := omega) only [fx, pv, kx, (hM.get 0 rfl).cell 3 (.int .i64 ((P).ct)) rfl]
  refine wl_give rfl (g_call 49 _ _ [.agg (kc (s)).toArray, .int .i64 ((P).ct)] (kf49 _ _) rfl ((wnew_v s P.ct n hn.out L w0 w6 _ hM hT (by omega) (by omega) hL).mono ?_))
  rintro e w8 ⟨q9, rfl, h_⟩
  refine ⟨_, rfl, ?_⟩
  replace hM : Ms w0 w8 (wk q9 n L 0 1 :: blk (w2.heap.size) (plc (P)) 25 :: blk (w.heap.size) (kc (s)) 23 :: R) := h_
  clear h_
  refine wl_fare kn ?_
  simp (disch := omega) only [fx, pv, kx]
  refine wl_nil (κ7 _ _ ?_)
  refine wp_seq_k fun _ κ10 => ?_
  refine wp_region_steps (by kernel_rfl) (by kernel_rfl) [6, 8] [0, 0, 0, 0, 0, 0, 0, 1, 1, 2] [2, 2, 2, 2, 2, 0, 2, 1, 2, 2] (by kernel_rfl) (Pm := Nat × Nat) (fun π => [.agg (kc (s)).toArray, .agg (plc (P)).toArray, .pointer (some ⟨q9, 0, none⟩), .pointer (some ⟨w2.heap.size, 2, none⟩), .int .i64 ((P).dl), .int .i64 (P.dl + 1), .slice (some ⟨π.1, 0, none⟩) (d) (d), .agg (snc (s) (P) (zk) (.pointer (some ⟨q9, 0, none⟩)) (.slice (some ⟨π.1, 0, none⟩) (d) (d))).toArray, .pointer (some ⟨π.2, 0, none⟩), .pointer (some ⟨π.2, 0, none⟩)]) (fun _ => by rfl) (fun j_ π wx => match j_ with | 0 => Ms w0 wx (wk q9 n L 0 1 :: blk (w2.heap.size) (plc (P)) 25 :: blk (w.heap.size) (kc (s)) 23 :: R) | 1 => Ms w0 wx (blk (π.1) (kcs (List.replicate (d) zk)) 23 :: wk q9 n L 0 1 :: blk (w2.heap.size) (plc (P)) 25 :: blk (w.heap.size) (kc (s)) 23 :: R) | _ => Ms w0 wx (blk (π.2) (snc (s) (P) (zk) (.pointer (some ⟨q9, 0, none⟩)) (.slice (some ⟨π.1, 0, none⟩) (d) (d))) 115 :: blk (π.1) (kcs (List.replicate (d) zk)) 23 :: wk q9 n L 0 1 :: blk (w2.heap.size) (plc (P)) 25 :: blk (w.heap.size) (kc (s)) 23 :: R)) (0, 0) hM.drew ?_ ?_ ?_
  · intro j_ k_ o_ hj_ ho_ π wx hM
    rcases j_ with _ | _ | j_
    · obtain rfl := Option.some.inj hj_
      cases so ho_
      simp only [fullL, Act.put, st_a, st_s, st_0]
      change Ms _ _ _ at hM
      exact gw rfl (g_mkK _ _ (d) (P.dl + 1) rfl rfl (hd.out) (by omega) (fun w' t_ b_ => ⟨(wx.heap.size, π.2), rfl, fun i h1 h2 => by rcases i with _ | _ | _ | _ | _ | _ | _ | _ | _ | _ | i <;> first | rfl | trivial | exact absurd rfl h2 | exact absurd h1 (by decide), hM.new t_ b_⟩))
    · obtain rfl := Option.some.inj hj_
      cases so ho_
      simp only [fullL, Act.put, st_a, st_s, st_0]
      change Ms _ _ _ at hM
      exact gw rfl (g_box 115 _ (snc (s) (P) (zk) (.pointer (some ⟨q9, 0, none⟩)) (.slice (some ⟨π.1, 0, none⟩) (d) (d))) rfl (fun w' t_ b_ => ⟨(π.1, wx.heap.size), rfl, fun i h1 h2 => by rcases i with _ | _ | _ | _ | _ | _ | _ | _ | _ | _ | i <;> first | rfl | trivial | exact absurd rfl h2 | exact absurd h1 (by decide), hM.new t_ b_⟩))
    · simp at hj_
  · intro i_ o_ ho_ hi_ j_ hd_ hh_ hj_ π wx hM
    simp only [fullL, Act.put, st_a, st_s, st_0]
    rcases i_ with _ | _ | _ | _ | _ | _ | _ | _ | _ | _ | i_
    · cases so ho_
      rcases j_ with _ | _ | _ | j_
      · change Ms _ _ _ at hM
        exact gw rfl (g_load_all 23 _ (w.heap.size) (kc (s)) 23 _ rfl (hM.get 2 rfl) Tryz.underlying23 rfl (szK _) ⟨rfl, hM⟩)
      · change Ms _ _ _ at hM
        exact gw rfl (g_load_all 23 _ (w.heap.size) (kc (s)) 23 _ rfl (hM.get 3 rfl) Tryz.underlying23 rfl (szK _) ⟨rfl, hM⟩)
      · change Ms _ _ _ at hM
        exact gw rfl (g_load_all 23 _ (w.heap.size) (kc (s)) 23 _ rfl (hM.get 4 rfl) Tryz.underlying23 rfl (szK _) ⟨rfl, hM⟩)
      · exact absurd hj_ (by simp)
    · cases so ho_
      rcases j_ with _ | _ | _ | j_
      · change Ms _ _ _ at hM
        exact gw rfl (g_load_all 25 _ (w2.heap.size) (plc (P)) 25 _ rfl (hM.get 1 rfl) Tryz.underlying25 rfl (szPl _) ⟨rfl, hM⟩)
      · change Ms _ _ _ at hM
        exact gw rfl (g_load_all 25 _ (w2.heap.size) (plc (P)) 25 _ rfl (hM.get 2 rfl) Tryz.underlying25 rfl (szPl _) ⟨rfl, hM⟩)
      · change Ms _ _ _ at hM
        exact gw rfl (g_load_all 25 _ (w2.heap.size) (plc (P)) 25 _ rfl (hM.get 3 rfl) Tryz.underlying25 rfl (szPl _) ⟨rfl, hM⟩)
      · exact absurd hj_ (by simp)
    · cases so ho_
      exact gw rfl (g_move _ _ rfl ⟨rfl, hM⟩)
    · cases so ho_
      exact gw rfl (g_fa _ _ _ _ _ _ rfl (faPl2 _ _ _) ⟨rfl, hM⟩)
    · cases so ho_
      rcases j_ with _ | _ | _ | j_
      · change Ms _ _ _ at hM
        exact gw rfl (g_ld1 3 _ (w2.heap.size) (2) _ rfl (ld3 _ _ _ _ ((hM.get 1 rfl).cell (2) _ (rfl))) ⟨rfl, hM⟩)
      · change Ms _ _ _ at hM
        exact gw rfl (g_ld1 3 _ (w2.heap.size) (2) _ rfl (ld3 _ _ _ _ ((hM.get 2 rfl).cell (2) _ (rfl))) ⟨rfl, hM⟩)
      · change Ms _ _ _ at hM
        exact gw rfl (g_ld1 3 _ (w2.heap.size) (2) _ rfl (ld3 _ _ _ _ ((hM.get 3 rfl).cell (2) _ (rfl))) ⟨rfl, hM⟩)
      · exact absurd hj_ (by simp)
    · cases so ho_
      exact gw rfl (g_ia 3 _ _ .i64 (P.dl) (1) (P.dl + 1) rfl rfl hdl.out ⟨rfl, hM⟩)
    · exact absurd (by decide) hi_
    · cases so ho_
      exact gw rfl (g_bldSn _ _ _ _ (s) (P) (.pointer (some ⟨q9, 0, none⟩)) (.slice (some ⟨π.1, 0, none⟩) (d) (d)) rfl rfl rfl rfl rfl rfl ⟨rfl, hM⟩)
    · exact absurd (by decide) hi_
    · cases so ho_
      exact gw rfl (g_assign _ _ rfl ⟨rfl, hM⟩)
    · simp at ho_
  · simp only [fullL, Act.put, st_a, st_s, st_0]
    rintro ⟨p12, p13⟩ w11 hM
    replace hM : Ms w0 w11 (blk (p13) (snc (s) (P) (zk) (.pointer (some ⟨q9, 0, none⟩)) (.slice (some ⟨p12, 0, none⟩) (d) (d))) 115 :: blk (p12) (kcs (List.replicate (d) zk)) 23 :: wk q9 n L 0 1 :: blk (w2.heap.size) (plc (P)) 25 :: blk (w.heap.size) (kc (s)) 23 :: R) := hM
    refine κ10 _ _ (wp_seq_k fun _ κ14 => ?_)
    refine wl_region (wl_fare kn ?_)
    simp (disch := omega) only [fx, pv, kx]
    refine wl_give rfl (g_call 50 _ _ [.pointer (some ⟨p13, 0, none⟩), .int .i64 (0)] (kf50 _ _) rfl ((mind_op ((Ms.mkpu (Mi.zero (n := n) (L := L) (List.length_replicate)) (show Ms w0 w11 (blk (p13) (snc (s) (P) (zk) (.pointer (some ⟨q9, 0, none⟩)) (.slice (some ⟨p12, 0, none⟩) (d) (d))) 115 :: wk q9 n L 0 1 :: blk (p12) (kcs (List.replicate (d) zk)) 23 :: blk (w2.heap.size) (plc (P)) 25 :: blk (w.heap.size) (kc (s)) 23 :: R) from (((hM.up 1 rfl).up 2 rfl).up 2 rfl))).down 3 rfl) 0 0 rfl hL hT (by omega) (by omega) (by omega) (by omega) (by omega)).mono ?_))
    rintro e w15 ⟨m16, ks17, rfl, h_⟩
    refine ⟨_, rfl, ?_⟩
    replace hM : Ms w0 w15 (blk (p13) (snc (s) (P) (zk) (.pointer (some ⟨q9, 0, none⟩)) (.slice (some ⟨p12, 0, none⟩) (d) (d))) 115 :: wk q9 n L (0 + 1) m16 :: blk (p12) (kcs (ks17)) 23 :: pu (Mi n d (0 + 1) L ks17) :: blk (w2.heap.size) (plc (P)) 25 :: blk (w.heap.size) (kc (s)) 23 :: R) := h_
    clear h_
    try simp only [nz]
    refine wl_nil (κ14 _ _ ?_)
    refine wp_seq_k fun _ κ18 => wl_region (wl_fare kn ?_)
    simp (disch := omega) only [fx, pv, kx]
    refine wl_give rfl (g_cM hM (kf51 _ _) (key_op (show Ms w0 w15 (blk (p13) (snc (s) (P) (zk) (.pointer (some ⟨q9, 0, none⟩)) (.slice (some ⟨p12, 0, none⟩) (d) (d))) 115 :: wk q9 n L (0 + 1) m16 :: blk (p12) (kcs (ks17)) 23 :: pu (Mi n d (0 + 1) L ks17) :: blk (w2.heap.size) (plc (P)) 25 :: blk (w.heap.size) (kc (s)) 23 :: R) from ((((hM.up 3 rfl).up 3 rfl).up 3 rfl).up 3 rfl)) 0 0 rfl hL (by omega) (by omega) (by omega) (kyk s P 0) hK0) rfl fun w19 hM => wl_fare kn ?_)
    simp (disch := omega) only [fx, pv, kx]
    refine wl_give rfl (g_storeN 23 _ _ (p13) (36) (kc (kyk s P 0)) _ 115 (snc (s) (P) (kyk s P 0) (.pointer (some ⟨q9, 0, none⟩)) (.slice (some ⟨p12, 0, none⟩) (d) (d))) rfl rfl (hM.get 0 rfl) (szK _) (by rw [kc_length, snc_length]; decide) (one_kc _) (sn_put _ _ _ _ _ _) fun w20 t_ b_ => ?_)
    replace hM : Ms w0 w20 (blk (p13) (snc (s) (P) (kyk s P 0) (.pointer (some ⟨q9, 0, none⟩)) (.slice (some ⟨p12, 0, none⟩) (d) (d))) 115 :: wk q9 n L (0 + 1) m16 :: blk (p12) (kcs (ks17)) 23 :: pu (Mi n d (0 + 1) L ks17) :: blk (w2.heap.size) (plc (P)) 25 :: blk (w.heap.size) (kc (s)) 23 :: R) := hM.put 0 rfl t_ b_
    clear t_ b_
    try simp only [nz]
    refine wl_nil (κ18 _ _ ?_)
    refine wp_seq_k fun _ κ21 => wl_region (wl_fare kn ?_)
    simp (disch := omega) only [fx, pv, kx]
    refine wl_nil (κ21 _ _ ?_)
    refine wp_ret ?_
    go_ret2
    exact ⟨_, rfl, sn_seal (l := 0) ((((((hM.erase 4).erase 4).up 3 rfl).up 3 rfl).up 3 rfl).up 3 rfl) hL hP hn hd ⟨rfl⟩ (by omega) (by omega)⟩
set_option maxHeartbeats 4000000 in
theorem send_e {w0 w : World} {R : List HP} {p q g n d a m : Nat} {s L : Ky} {P : Pl} {ks : List Ky} {l t : Int} (x : ByteArray) (J E : Int) (hM : Ms w0 w (blk (p) (snc (s) (P) ((kyk s P 0)) (.pointer (some ⟨q, 0, none⟩)) (.slice (some ⟨g, 0, none⟩) (d) (d))) 115 :: wk q n L (a) m :: blk (g) (kcs (ks)) 23 :: pu (Mi n d (a) L ks) :: R)) (hT : Tabs w0) (hL : Shut (tg s chainW = L)) (hP : POk P) (hn : Shut (P.ct = (n : Int))) (hd : Shut (P.dl + 1 = (d : Int))) (hl : Shut (l + 1 = (a : Int))) (hl0 : 0 ≤ l) (hl1 : l ≤ P.ct) (ht : -9223372036854775808 ≤ t ∧ t ≤ 9223372036854775807) (hpat : Shut (pat P t = (J, E))) (hE : E ≠ 0) : Calls Tryz.prog 27 #[.pointer (some ⟨p, 0, none⟩), .int .i64 t, .string x] w fun e w' => e = .returned (.tuple #[.agg (pkc 0 ⟨#[]⟩ ⟨#[]⟩ 0 zk).toArray, .int .i64 E]) ∧ Ms w0 w' (sn p s P l :: R) := by
  go_enter Tryz.func27, Tryz.ntmps27
  refine wp_seq_k fun _ κ1 => wl_region (wl_give rfl (g_alloc 39 (pkc (0) (⟨#[]⟩) (⟨#[]⟩) (0) (zk)) zeroPk ?_))
  intro w2 t_ b_
  replace hM := hM.new t_ b_
  clear t_ b_
  refine wl_fare kn ?_
  simp (disch := omega) only [fx, pv, kx]
  refine wl_nil (κ1 _ _ ?_)
  refine wp_seq_k fun _ κ3 => wl_region (wl_fare kn ?_)
  simp (disch := omega) only [fx, pv, kx]
  refine wl_give rfl (g_load 25 _ (p) (32) 4 _ 115 _ rfl (hM.get 1 rfl) Tryz.underlying25 rfl sizeP (by rw [snc_length]; decide) (plc (P)) (sn_plan _ _ _ _ _) ?_)
  refine wl_fare kn ?_
  simp (disch := omega) only [fx, pv, kx]
  refine wl_give rfl (g_cM hM (kf52 _ _) (pat_any P t w2 ht (J) (E) hpat) rfl fun w4 hM => wl_fare kn ?_)
  simp (disch := omega) only [fx, pv, kx]
  refine wl_nil (κ3 _ _ ?_)
  refine wp_seq_k fun _ κ5 => wp_seq_k fun _ κ6 => wl_region (wl_fare kn ?_)
  simp (disch := omega) only [fx, pv, kx]
  refine wl_nil (κ6 _ _ ?_)
  refine wp_cond_true rfl (wp_seq_k fun _ κ7 => ?_)
  refine wl_region (wl_give rfl (g_bldPk0 ?_))
  refine wl_fare kn ?_
  simp (disch := omega) only [fx, pv, kx]
  refine wl_give rfl (g_store_all 39 _ _ (w.heap.size) (pkc (0) (⟨#[]⟩) (⟨#[]⟩) (0) (zk)) _ 39 rfl rfl (hM.get 0 rfl) (szPk _ _ _ _ _) (kk2_len _ _ _ _ _ _ _ _ _ _) (one_pkc _ _ _ _ _) fun w8 t_ b_ => ?_)
  replace hM : Ms w0 w8 (blk (w.heap.size) (pkc (0) (⟨#[]⟩) (⟨#[]⟩) (0) (zk)) 39 :: blk (p) (snc (s) (P) ((kyk s P 0)) (.pointer (some ⟨q, 0, none⟩)) (.slice (some ⟨g, 0, none⟩) (d) (d))) 115 :: wk q n L (a) m :: blk (g) (kcs (ks)) 23 :: pu (Mi n d (a) L ks) :: R) := hM.put 0 rfl t_ b_
  clear t_ b_
  refine wl_fare kn ?_
  simp (disch := omega) only [fx, pv, kx]
  refine wl_nil (κ7 _ _ ?_)
  refine wp_ret ?_
  (try simp only [Exit.inBlock, Exit.then])
  exact bodyPost_ret (results_blk_tmp rfl _ (pkc (0) (⟨#[]⟩) (⟨#[]⟩) (0) (zk)) (.int .i64 (E)) _ rfl rfl (hM.get 0 rfl) Tryz.underlying39 rfl (szPk _ _ _ _ _)) rfl ⟨rfl, sn_seal (l := l) (((((hM.erase 0).up 3 rfl).up 3 rfl).up 3 rfl).up 3 rfl) hL hP hn hd hl hl0 hl1⟩
set_option maxHeartbeats 4000000 in
theorem send_late {w0 w : World} {R : List HP} {p q g n d a m : Nat} {s L : Ky} {P : Pl} {ks : List Ky} {l t : Int} (x : ByteArray) (J : Int) (hM : Ms w0 w (blk (p) (snc (s) (P) ((kyk s P 0)) (.pointer (some ⟨q, 0, none⟩)) (.slice (some ⟨g, 0, none⟩) (d) (d))) 115 :: wk q n L (a) m :: blk (g) (kcs (ks)) 23 :: pu (Mi n d (a) L ks) :: R)) (hT : Tabs w0) (hL : Shut (tg s chainW = L)) (hP : POk P) (hn : Shut (P.ct = (n : Int))) (hd : Shut (P.dl + 1 = (d : Int))) (hl : Shut (l + 1 = (a : Int))) (hl0 : 0 ≤ l) (hl1 : l ≤ P.ct) (ht : -9223372036854775808 ≤ t ∧ t ≤ 9223372036854775807) (hpat : Shut (pat P t = (J, 0))) (hJ : J < l) : Calls Tryz.prog 27 #[.pointer (some ⟨p, 0, none⟩), .int .i64 t, .string x] w fun e w' => e = .returned (.tuple #[.agg (pkc 0 ⟨#[]⟩ ⟨#[]⟩ 0 zk).toArray, .int .i64 14]) ∧ Ms w0 w' (sn p s P l :: R) := by
  go_enter Tryz.func27, Tryz.ntmps27
  refine wp_seq_k fun _ κ1 => wl_region (wl_give rfl (g_alloc 39 (pkc (0) (⟨#[]⟩) (⟨#[]⟩) (0) (zk)) zeroPk ?_))
  intro w2 t_ b_
  replace hM := hM.new t_ b_
  clear t_ b_
  refine wl_fare kn ?_
  simp (disch := omega) only [fx, pv, kx]
  refine wl_nil (κ1 _ _ ?_)
  refine wp_seq_k fun _ κ3 => wl_region (wl_fare kn ?_)
  simp (disch := omega) only [fx, pv, kx]
  refine wl_give rfl (g_load 25 _ (p) (32) 4 _ 115 _ rfl (hM.get 1 rfl) Tryz.underlying25 rfl sizeP (by rw [snc_length]; decide) (plc (P)) (sn_plan _ _ _ _ _) ?_)
  refine wl_fare kn ?_
  simp (disch := omega) only [fx, pv, kx]
  refine wl_give rfl (g_cM hM (kf52 _ _) (pat_any P t w2 ht (J) (0) hpat) rfl fun w4 hM => wl_fare kn ?_)
  simp (disch := omega) only [fx, pv, kx]
  refine wl_nil (κ3 _ _ ?_)
  refine wp_seq_k fun _ κ5 => wp_seq_k fun _ κ6 => wl_region (wl_fare kn ?_)
  simp (disch := omega) only [fx, pv, kx]
  refine wl_nil (κ6 _ _ ?_)
  refine wp_cond_false rfl (wp_skip ?_)
  refine κ5 _ _ (wp_seq_k fun _ κ7 => ?_)
  refine wp_seq_k fun _ κ8 => wl_region (wl_fare kn ?_)
  simp (disch := omega) only [fx, pv, kx]
  refine wl_give rfl (g_cM hM (kf53 _ _) (last_op (show Ms w0 w4 (blk (p) (snc (s) (P) ((kyk s P 0)) (.pointer (some ⟨q, 0, none⟩)) (.slice (some ⟨g, 0, none⟩) (d) (d))) 115 :: wk q n L (a) m :: blk (g) (kcs (ks)) 23 :: pu (Mi n d (a) L ks) :: blk (w.heap.size) (pkc (0) (⟨#[]⟩) (⟨#[]⟩) (0) (zk)) 39 :: R) from ((((hM.up 4 rfl).up 4 rfl).up 4 rfl).up 4 rfl)) l hl (by have := hl.out; omega) (by have := hl.out; omega)) rfl fun w9 hM => wl_fare kn ?_)
  simp (disch := omega) only [fx, pv, kx]
  refine wl_nil (κ8 _ _ ?_)
  refine wp_cond_true rfl (wp_seq_k fun _ κ10 => ?_)
  refine wl_region (wl_give rfl (g_bldPk0 ?_))
  try simp only [nz]
  refine wl_give rfl (g_store_all 39 _ _ (w.heap.size) (pkc (0) (⟨#[]⟩) (⟨#[]⟩) (0) (zk)) _ 39 rfl rfl (hM.get 0 rfl) (szPk _ _ _ _ _) (kk2_len _ _ _ _ _ _ _ _ _ _) (one_pkc _ _ _ _ _) fun w11 t_ b_ => ?_)
  replace hM : Ms w0 w11 (blk (w.heap.size) (pkc (0) (⟨#[]⟩) (⟨#[]⟩) (0) (zk)) 39 :: blk (p) (snc (s) (P) ((kyk s P 0)) (.pointer (some ⟨q, 0, none⟩)) (.slice (some ⟨g, 0, none⟩) (d) (d))) 115 :: wk q n L (a) m :: blk (g) (kcs (ks)) 23 :: pu (Mi n d (a) L ks) :: R) := hM.put 0 rfl t_ b_
  clear t_ b_
  refine wl_fare kn ?_
  simp (disch := omega) only [fx, pv, kx]
  refine wl_nil (κ10 _ _ ?_)
  refine wp_ret ?_
  (try simp only [Exit.inBlock, Exit.then])
  exact bodyPost_ret (results_blk_tmp rfl _ (pkc (0) (⟨#[]⟩) (⟨#[]⟩) (0) (zk)) (.int .i64 (14)) _ rfl rfl (hM.get 0 rfl) Tryz.underlying39 rfl (szPk _ _ _ _ _)) rfl ⟨rfl, sn_seal (l := l) (((((hM.erase 0).up 3 rfl).up 3 rfl).up 3 rfl).up 3 rfl) hL hP hn hd hl hl0 hl1⟩
set_option maxHeartbeats 4000000 in
theorem send_size {w0 w : World} {R : List HP} {p q g n d a m : Nat} {s L : Ky} {P : Pl} {ks : List Ky} {l t : Int} (x : ByteArray) (J : Int) (hM : Ms w0 w (blk (p) (snc (s) (P) ((kyk s P 0)) (.pointer (some ⟨q, 0, none⟩)) (.slice (some ⟨g, 0, none⟩) (d) (d))) 115 :: wk q n L (a) m :: blk (g) (kcs (ks)) 23 :: pu (Mi n d (a) L ks) :: R)) (hT : Tabs w0) (hL : Shut (tg s chainW = L)) (hP : POk P) (hn : Shut (P.ct = (n : Int))) (hd : Shut (P.dl + 1 = (d : Int))) (hl : Shut (l + 1 = (a : Int))) (hl0 : 0 ≤ l) (hl1 : l ≤ P.ct) (ht : -9223372036854775808 ≤ t ∧ t ≤ 9223372036854775807) (hpat : Shut (pat P t = (J, 0))) (hJ : ¬ J < l) (hx : 1000 < ((x.size : Nat) : Int)) : Calls Tryz.prog 27 #[.pointer (some ⟨p, 0, none⟩), .int .i64 t, .string x] w fun e w' => e = .returned (.tuple #[.agg (pkc 0 ⟨#[]⟩ ⟨#[]⟩ 0 zk).toArray, .int .i64 5]) ∧ Ms w0 w' (sn p s P l :: R) := by
  go_enter Tryz.func27, Tryz.ntmps27
  refine wp_seq_k fun _ κ1 => wl_region (wl_give rfl (g_alloc 39 (pkc (0) (⟨#[]⟩) (⟨#[]⟩) (0) (zk)) zeroPk ?_))
  intro w2 t_ b_
  replace hM := hM.new t_ b_
  clear t_ b_
  refine wl_fare kn ?_
  simp (disch := omega) only [fx, pv, kx]
  refine wl_nil (κ1 _ _ ?_)
  refine wp_seq_k fun _ κ3 => wl_region (wl_fare kn ?_)
  simp (disch := omega) only [fx, pv, kx]
  refine wl_give rfl (g_load 25 _ (p) (32) 4 _ 115 _ rfl (hM.get 1 rfl) Tryz.underlying25 rfl sizeP (by rw [snc_length]; decide) (plc (P)) (sn_plan _ _ _ _ _) ?_)
  refine wl_fare kn ?_
  simp (disch := omega) only [fx, pv, kx]
  refine wl_give rfl (g_cM hM (kf52 _ _) (pat_any P t w2 ht (J) (0) hpat) rfl fun w4 hM => wl_fare kn ?_)
  simp (disch := omega) only [fx, pv, kx]
  refine wl_nil (κ3 _ _ ?_)
  refine wp_seq_k fun _ κ5 => wp_seq_k fun _ κ6 => wl_region (wl_fare kn ?_)
  simp (disch := omega) only [fx, pv, kx]
  refine wl_nil (κ6 _ _ ?_)
  refine wp_cond_false rfl (wp_skip ?_)
  refine κ5 _ _ (wp_seq_k fun _ κ7 => ?_)
  refine wp_seq_k fun _ κ8 => wl_region (wl_fare kn ?_)
  simp (disch := omega) only [fx, pv, kx]
  refine wl_give rfl (g_cM hM (kf53 _ _) (last_op (show Ms w0 w4 (blk (p) (snc (s) (P) ((kyk s P 0)) (.pointer (some ⟨q, 0, none⟩)) (.slice (some ⟨g, 0, none⟩) (d) (d))) 115 :: wk q n L (a) m :: blk (g) (kcs (ks)) 23 :: pu (Mi n d (a) L ks) :: blk (w.heap.size) (pkc (0) (⟨#[]⟩) (⟨#[]⟩) (0) (zk)) 39 :: R) from ((((hM.up 4 rfl).up 4 rfl).up 4 rfl).up 4 rfl)) l hl (by have := hl.out; omega) (by have := hl.out; omega)) rfl fun w9 hM => wl_fare kn ?_)
  simp (disch := omega) only [fx, pv, kx]
  refine wl_nil (κ8 _ _ ?_)
  refine wp_cond_false rfl (wp_skip ?_)
  refine κ7 _ _ (wp_seq_k fun _ κ10 => ?_)
  refine wp_seq_k fun _ κ11 => wl_region (wl_fare kn ?_)
  simp (disch := omega) only [fx, pv, kx]
  refine wl_give rfl (g_lenT _ (x) ((((x).size : Nat) : Int)) rfl (rfl) ?_)
  refine wl_fare kn ?_
  simp (disch := omega) only [fx, pv, kx]
  refine wl_nil (κ11 _ _ ?_)
  refine wp_cond_true rfl (wp_seq_k fun _ κ12 => ?_)
  refine wl_region (wl_give rfl (g_bldPk0 ?_))
  try simp only [nz]
  refine wl_give rfl (g_store_all 39 _ _ (w.heap.size) (pkc (0) (⟨#[]⟩) (⟨#[]⟩) (0) (zk)) _ 39 rfl rfl (hM.get 0 rfl) (szPk _ _ _ _ _) (kk2_len _ _ _ _ _ _ _ _ _ _) (one_pkc _ _ _ _ _) fun w13 t_ b_ => ?_)
  replace hM : Ms w0 w13 (blk (w.heap.size) (pkc (0) (⟨#[]⟩) (⟨#[]⟩) (0) (zk)) 39 :: blk (p) (snc (s) (P) ((kyk s P 0)) (.pointer (some ⟨q, 0, none⟩)) (.slice (some ⟨g, 0, none⟩) (d) (d))) 115 :: wk q n L (a) m :: blk (g) (kcs (ks)) 23 :: pu (Mi n d (a) L ks) :: R) := hM.put 0 rfl t_ b_
  clear t_ b_
  refine wl_fare kn ?_
  simp (disch := omega) only [fx, pv, kx]
  refine wl_nil (κ12 _ _ ?_)
  refine wp_ret ?_
  (try simp only [Exit.inBlock, Exit.then])
  exact bodyPost_ret (results_blk_tmp rfl _ (pkc (0) (⟨#[]⟩) (⟨#[]⟩) (0) (zk)) (.int .i64 (5)) _ rfl rfl (hM.get 0 rfl) Tryz.underlying39 rfl (szPk _ _ _ _ _)) rfl ⟨rfl, sn_seal (l := l) (((((hM.erase 0).up 3 rfl).up 3 rfl).up 3 rfl).up 3 rfl) hL hP hn hd hl hl0 hl1⟩
set_option maxHeartbeats 4000000 in
theorem send_none {w0 w : World} {R : List HP} {p q g n d a m : Nat} {s L : Ky} {P : Pl} {ks : List Ky} {l t : Int} (x : ByteArray) (i : Nat) (hi : i ≤ n) (K1 : Ky) (hK1 : Shut (wl (n - i) L = K1)) (G : ByteArray) (hG : Shut (tgs K1 ((i : Nat) : Int) x = G)) (hTe : Shut (pte P ((i : Nat) : Int) = 0)) (hM : Ms w0 w (blk (p) (snc (s) (P) ((kyk s P 0)) (.pointer (some ⟨q, 0, none⟩)) (.slice (some ⟨g, 0, none⟩) (d) (d))) 115 :: wk q n L (a) m :: blk (g) (kcs (ks)) 23 :: pu (Mi n d (a) L ks) :: R)) (hT : Tabs w0) (hL : Shut (tg s chainW = L)) (hP : POk P) (hn : Shut (P.ct = (n : Int))) (hd : Shut (P.dl + 1 = (d : Int))) (hl : Shut (l + 1 = (a : Int))) (hl0 : 0 ≤ l) (hl1 : l ≤ P.ct) (ht : -9223372036854775808 ≤ t ∧ t ≤ 9223372036854775807) (hpat : Shut (pat P t = (((i : Nat) : Int), 0))) (hJ : ¬ ((i : Nat) : Int) < l) (hx : ¬ 1000 < ((x.size : Nat) : Int)) : Calls Tryz.prog 27 #[.pointer (some ⟨p, 0, none⟩), .int .i64 t, .string x] w fun e w' => e = .returned (.tuple #[.agg (pkc ((i : Nat) : Int) x G 0 zk).toArray, .int .i64 0]) ∧ Ms w0 w' (sn p s P ((i : Nat) : Int) :: R) := by
  go_enter Tryz.func27, Tryz.ntmps27
  refine wp_seq_k fun _ κ1 => wl_region (wl_give rfl (g_alloc 39 (pkc (0) (⟨#[]⟩) (⟨#[]⟩) (0) (zk)) zeroPk ?_))
  intro w2 t_ b_
  replace hM := hM.new t_ b_
  clear t_ b_
  refine wl_fare kn ?_
  simp (disch := omega) only [fx, pv, kx]
  refine wl_nil (κ1 _ _ ?_)
  refine wp_seq_k fun _ κ3 => wl_region (wl_fare kn ?_)
  simp (disch := omega) only [fx, pv, kx]
  refine wl_give rfl (g_load 25 _ (p) (32) 4 _ 115 _ rfl (hM.get 1 rfl) Tryz.underlying25 rfl sizeP (by rw [snc_length]; decide) (plc (P)) (sn_plan _ _ _ _ _) ?_)
  refine wl_fare kn ?_
  simp (disch := omega) only [fx, pv, kx]
  refine wl_give rfl (g_cM hM (kf52 _ _) (pat_any P t w2 ht (((i : Nat) : Int)) (0) hpat) rfl fun w4 hM => wl_fare kn ?_)
  simp (disch := omega) only [fx, pv, kx]
  refine wl_nil (κ3 _ _ ?_)
  refine wp_seq_k fun _ κ5 => wp_seq_k fun _ κ6 => wl_region (wl_fare kn ?_)
  simp (disch := omega) only [fx, pv, kx]
  refine wl_nil (κ6 _ _ ?_)
  refine wp_cond_false rfl (wp_skip ?_)
  refine κ5 _ _ (wp_seq_k fun _ κ7 => ?_)
  refine wp_seq_k fun _ κ8 => wl_region (wl_fare kn ?_)
  simp (disch := omega) only [fx, pv, kx]
  refine wl_give rfl (g_cM hM (kf53 _ _) (last_op (show Ms w0 w4 (blk (p) (snc (s) (P) ((kyk s P 0)) (.pointer (some ⟨q, 0, none⟩)) (.slice (some ⟨g, 0, none⟩) (d) (d))) 115 :: wk q n L (a) m :: blk (g) (kcs (ks)) 23 :: pu (Mi n d (a) L ks) :: blk (w.heap.size) (pkc (0) (⟨#[]⟩) (⟨#[]⟩) (0) (zk)) 39 :: R) from ((((hM.up 4 rfl).up 4 rfl).up 4 rfl).up 4 rfl)) l hl (by have := hl.out; omega) (by have := hl.out; omega)) rfl fun w9 hM => wl_fare kn ?_)
  simp (disch := omega) only [fx, pv, kx]
  refine wl_nil (κ8 _ _ ?_)
  refine wp_cond_false rfl (wp_skip ?_)
  refine κ7 _ _ (wp_seq_k fun _ κ10 => ?_)
  refine wp_seq_k fun _ κ11 => wl_region (wl_fare kn ?_)
  simp (disch := omega) only [fx, pv, kx]
  refine wl_give rfl (g_lenT _ (x) ((((x).size : Nat) : Int)) rfl (rfl) ?_)
  refine wl_fare kn ?_
  simp (disch := omega) only [fx, pv, kx]
  refine wl_nil (κ11 _ _ ?_)
  refine wp_cond_false rfl (wp_skip ?_)
  refine κ10 _ _ (wp_seq_k fun _ κ12 => ?_)
  refine wl_region (wl_fare kn ?_)
  simp (disch := omega) only [fx, pv, kx]
  refine wl_give rfl (g_call 50 _ _ [.pointer (some ⟨p, 0, none⟩), .int .i64 (((i : Nat) : Int))] (kf50 _ _) rfl ((mind_op (show Ms w0 w9 (blk (p) (snc (s) (P) ((kyk s P 0)) (.pointer (some ⟨q, 0, none⟩)) (.slice (some ⟨g, 0, none⟩) (d) (d))) 115 :: wk q n L (a) m :: blk (g) (kcs (ks)) 23 :: pu (Mi n d (a) L ks) :: blk (w.heap.size) (pkc (0) (⟨#[]⟩) (⟨#[]⟩) (0) (zk)) 39 :: R) from ((((hM.up 4 rfl).up 4 rfl).up 4 rfl).up 4 rfl)) ((i : Nat) : Int) i rfl hL hT hi (by have := hn.out; omega) (by have := hl.out; omega) (by have := hd.out; omega) (by have := hd.out; omega)).mono ?_))
  rintro e w13 ⟨m14, ks15, rfl, h_⟩
  refine ⟨_, rfl, ?_⟩
  replace hM : Ms w0 w13 (blk (p) (snc (s) (P) ((kyk s P 0)) (.pointer (some ⟨q, 0, none⟩)) (.slice (some ⟨g, 0, none⟩) (d) (d))) 115 :: wk q n L (i + 1) m14 :: blk (g) (kcs (ks15)) 23 :: pu (Mi n d (i + 1) L ks15) :: blk (w.heap.size) (pkc (0) (⟨#[]⟩) (⟨#[]⟩) (0) (zk)) 39 :: R) := h_
  clear h_
  try simp only [nz]
  refine wl_nil (κ12 _ _ ?_)
  refine wp_seq_k fun _ κ16 => wl_region (wl_fare kn ?_)
  simp (disch := omega) only [fx, pv, kx]
  refine wl_give rfl (g_cM hM (kf51 _ _) (key_op (show Ms w0 w13 (blk (p) (snc (s) (P) ((kyk s P 0)) (.pointer (some ⟨q, 0, none⟩)) (.slice (some ⟨g, 0, none⟩) (d) (d))) 115 :: wk q n L (i + 1) m14 :: blk (g) (kcs (ks15)) 23 :: pu (Mi n d (i + 1) L ks15) :: blk (w.heap.size) (pkc (0) (⟨#[]⟩) (⟨#[]⟩) (0) (zk)) 39 :: R) from ((((hM.up 3 rfl).up 3 rfl).up 3 rfl).up 3 rfl)) ((i : Nat) : Int) i rfl hL (by omega) (by have := hd.out; omega) (by have := hd.out; omega) K1 hK1) rfl fun w17 hM => wl_fare kn ?_)
  simp (disch := omega) only [fx, pv, kx]
  refine wl_give rfl (g_cM hM (kf54 _ _) (tagS_any K1 ((i : Nat) : Int) x w17 (hM.tabs hT) (by omega) G hG) rfl fun w18 hM => ?_)
  try simp only [nz]
  refine wl_give rfl (g_bldPk3 _ _ _ (((i : Nat) : Int)) (x) (G) rfl rfl rfl ?_)
  try simp only [nz]
  refine wl_give rfl (g_alloc 39 (pkc (0) (⟨#[]⟩) (⟨#[]⟩) (0) (zk)) zeroPk fun w19 t_ b_ => ?_)
  replace hM := hM.new t_ b_
  clear t_ b_
  try simp only [nz]
  refine wl_give rfl (g_store_all 39 _ _ (w18.heap.size) (pkc (((i : Nat) : Int)) (x) (G) (0) (zk)) _ 39 rfl rfl (hM.get 0 rfl) (szPk _ _ _ _ _) (kk2_len _ _ _ _ _ _ _ _ _ _) (one_pkc _ _ _ _ _) fun w20 t_ b_ => ?_)
  replace hM : Ms w0 w20 (blk (w18.heap.size) (pkc (((i : Nat) : Int)) (x) (G) (0) (zk)) 39 :: blk (p) (snc (s) (P) ((kyk s P 0)) (.pointer (some ⟨q, 0, none⟩)) (.slice (some ⟨g, 0, none⟩) (d) (d))) 115 :: wk q n L (i + 1) m14 :: blk (g) (kcs (ks15)) 23 :: pu (Mi n d (i + 1) L ks15) :: blk (w.heap.size) (pkc (0) (⟨#[]⟩) (⟨#[]⟩) (0) (zk)) 39 :: R) := hM.put 0 rfl t_ b_
  clear t_ b_
  try simp only [nz]
  refine wl_nil (κ16 _ _ ?_)
  refine wp_seq_k fun _ κ21 => wp_seq_k fun _ κ22 => wl_region (wl_fare kn ?_)
  simp (disch := omega) only [fx, pv, kx]
  refine wl_give rfl (g_load 25 _ (p) (32) 4 _ 115 _ rfl (hM.get 1 rfl) Tryz.underlying25 rfl sizeP (by rw [snc_length]; decide) (plc (P)) (sn_plan _ _ _ _ _) ?_)
  refine wl_fare kn ?_
  simp (disch := omega) only [fx, pv, kx]
  refine wl_give rfl (g_cM hM (kf55 _ _) (ptells_any P ((i : Nat) : Int) w20 0 hTe) rfl fun w23 hM => wl_fare kn ?_)
  simp (disch := omega) only [fx, pv, kx]
  refine wl_nil (κ22 _ _ ?_)
  refine wp_seq_k fun _ κ24 => wl_region (wl_fare kn ?_)
  simp (disch := omega) only [fx, pv, kx, ((decide_eq_false (by decide)) : decide ((0) < (0)) = false)]
  refine wl_nil (κ24 _ _ ?_)
  refine wp_cond_false rfl (wp_skip ?_)
  refine κ21 _ _ (wp_seq_k fun _ κ25 => ?_)
  refine wl_region (wl_give rfl (g_load_all 39 _ (w18.heap.size) (pkc (((i : Nat) : Int)) (x) (G) (0) (zk)) 39 _ rfl (hM.get 0 rfl) Tryz.underlying39 rfl (szPk _ _ _ _ _) ?_))
  try simp only [nz]
  refine wl_give rfl (g_store_all 39 _ _ (w.heap.size) (pkc (((i : Nat) : Int)) (x) (G) (0) (zk)) _ 39 rfl rfl (hM.get 5 rfl) (szPk _ _ _ _ _) (kk2_len _ _ _ _ _ _ _ _ _ _) (one_pkc _ _ _ _ _) fun w26 t_ b_ => ?_)
  replace hM : Ms w0 w26 (blk (w18.heap.size) (pkc (((i : Nat) : Int)) (x) (G) (0) (zk)) 39 :: blk (p) (snc (s) (P) ((kyk s P 0)) (.pointer (some ⟨q, 0, none⟩)) (.slice (some ⟨g, 0, none⟩) (d) (d))) 115 :: wk q n L (i + 1) m14 :: blk (g) (kcs (ks15)) 23 :: pu (Mi n d (i + 1) L ks15) :: blk (w.heap.size) (pkc (((i : Nat) : Int)) (x) (G) (0) (zk)) 39 :: R) := hM.put 5 rfl t_ b_
  clear t_ b_
  refine wl_fare kn ?_
  simp (disch := omega) only [fx, pv, kx]
  refine wl_nil (κ25 _ _ ?_)
  refine wp_ret ?_
  (try simp only [Exit.inBlock, Exit.then])
  exact bodyPost_ret (results_blk_tmp rfl _ (pkc (((i : Nat) : Int)) (x) (G) (0) (zk)) (.int .i64 (0)) _ rfl rfl (hM.get 5 rfl) Tryz.underlying39 rfl (szPk _ _ _ _ _)) rfl ⟨rfl, sn_seal (l := ((i : Nat) : Int)) ((((((hM.erase 0).erase 4).up 3 rfl).up 3 rfl).up 3 rfl).up 3 rfl) hL hP hn hd ⟨by omega⟩ (by omega) (by have := hn.out; omega)⟩
set_option maxHeartbeats 4000000 in
theorem send_told {w0 w : World} {R : List HP} {p q g n d a m : Nat} {s L : Ky} {P : Pl} {ks : List Ky} {l t : Int} (x : ByteArray) (i : Nat) (hi : i ≤ n) (K1 : Ky) (hK1 : Shut (wl (n - i) L = K1)) (G : ByteArray) (hG : Shut (tgs K1 ((i : Nat) : Int) x = G)) (T : Int) (hTe : Shut (pte P ((i : Nat) : Int) = T)) (hM : Ms w0 w (blk (p) (snc (s) (P) ((kyk s P 0)) (.pointer (some ⟨q, 0, none⟩)) (.slice (some ⟨g, 0, none⟩) (d) (d))) 115 :: wk q n L (a) m :: blk (g) (kcs (ks)) 23 :: pu (Mi n d (a) L ks) :: R)) (hT : Tabs w0) (hL : Shut (tg s chainW = L)) (hP : POk P) (hn : Shut (P.ct = (n : Int))) (hd : Shut (P.dl + 1 = (d : Int))) (hl : Shut (l + 1 = (a : Int))) (hl0 : 0 ≤ l) (hl1 : l ≤ P.ct) (ht : -9223372036854775808 ≤ t ∧ t ≤ 9223372036854775807) (hpat : Shut (pat P t = (((i : Nat) : Int), 0))) (hJ : ¬ ((i : Nat) : Int) < l) (hx : ¬ 1000 < ((x.size : Nat) : Int)) (hT0 : 0 < T) (j : Nat) (hTj : T = (j : Int)) (hji : j ≤ i) (hjd : (i : Int) - P.dl ≤ j) (K2 : Ky) (hK2 : Shut (wl (n - j) L = K2)) : Calls Tryz.prog 27 #[.pointer (some ⟨p, 0, none⟩), .int .i64 t, .string x] w fun e w' => e = .returned (.tuple #[.agg (pkc ((i : Nat) : Int) x G T K2).toArray, .int .i64 0]) ∧ Ms w0 w' (sn p s P ((i : Nat) : Int) :: R) := by
  go_enter Tryz.func27, Tryz.ntmps27
  refine wp_seq_k fun _ κ1 => wl_region (wl_give rfl (g_alloc 39 (pkc (0) (⟨#[]⟩) (⟨#[]⟩) (0) (zk)) zeroPk ?_))
  intro w2 t_ b_
  replace hM := hM.new t_ b_
  clear t_ b_
  refine wl_fare kn ?_
  simp (disch := omega) only [fx, pv, kx]
  refine wl_nil (κ1 _ _ ?_)
  refine wp_seq_k fun _ κ3 => wl_region (wl_fare kn ?_)
  simp (disch := omega) only [fx, pv, kx]
  refine wl_give rfl (g_load 25 _ (p) (32) 4 _ 115 _ rfl (hM.get 1 rfl) Tryz.underlying25 rfl sizeP (by rw [snc_length]; decide) (plc (P)) (sn_plan _ _ _ _ _) ?_)
  refine wl_fare kn ?_
  simp (disch := omega) only [fx, pv, kx]
  refine wl_give rfl (g_cM hM (kf52 _ _) (pat_any P t w2 ht (((i : Nat) : Int)) (0) hpat) rfl fun w4 hM => wl_fare kn ?_)
  simp (disch := omega) only [fx, pv, kx]
  refine wl_nil (κ3 _ _ ?_)
  refine wp_seq_k fun _ κ5 => wp_seq_k fun _ κ6 => wl_region (wl_fare kn ?_)
  simp (disch := omega) only [fx, pv, kx]
  refine wl_nil (κ6 _ _ ?_)
  refine wp_cond_false rfl (wp_skip ?_)
  refine κ5 _ _ (wp_seq_k fun _ κ7 => ?_)
  refine wp_seq_k fun _ κ8 => wl_region (wl_fare kn ?_)
  simp (disch := omega) only [fx, pv, kx]
  refine wl_give rfl (g_cM hM (kf53 _ _) (last_op (show Ms w0 w4 (blk (p) (snc (s) (P) ((kyk s P 0)) (.pointer (some ⟨q, 0, none⟩)) (.slice (some ⟨g, 0, none⟩) (d) (d))) 115 :: wk q n L (a) m :: blk (g) (kcs (ks)) 23 :: pu (Mi n d (a) L ks) :: blk (w.heap.size) (pkc (0) (⟨#[]⟩) (⟨#[]⟩) (0) (zk)) 39 :: R) from ((((hM.up 4 rfl).up 4 rfl).up 4 rfl).up 4 rfl)) l hl (by have := hl.out; omega) (by have := hl.out; omega)) rfl fun w9 hM => wl_fare kn ?_)
  simp (disch := omega) only [fx, pv, kx]
  refine wl_nil (κ8 _ _ ?_)
  refine wp_cond_false rfl (wp_skip ?_)
  refine κ7 _ _ (wp_seq_k fun _ κ10 => ?_)
  refine wp_seq_k fun _ κ11 => wl_region (wl_fare kn ?_)
  simp (disch := omega) only [fx, pv, kx]
  refine wl_give rfl (g_lenT _ (x) ((((x).size : Nat) : Int)) rfl (rfl) ?_)
  refine wl_fare kn ?_
  simp (disch := omega) only [fx, pv, kx]
  refine wl_nil (κ11 _ _ ?_)
  refine wp_cond_false rfl (wp_skip ?_)
  refine κ10 _ _ (wp_seq_k fun _ κ12 => ?_)
  refine wl_region (wl_fare kn ?_)
  simp (disch := omega) only [fx, pv, kx]
  refine wl_give rfl (g_call 50 _ _ [.pointer (some ⟨p, 0, none⟩), .int .i64 (((i : Nat) : Int))] (kf50 _ _) rfl ((mind_op (show Ms w0 w9 (blk (p) (snc (s) (P) ((kyk s P 0)) (.pointer (some ⟨q, 0, none⟩)) (.slice (some ⟨g, 0, none⟩) (d) (d))) 115 :: wk q n L (a) m :: blk (g) (kcs (ks)) 23 :: pu (Mi n d (a) L ks) :: blk (w.heap.size) (pkc (0) (⟨#[]⟩) (⟨#[]⟩) (0) (zk)) 39 :: R) from ((((hM.up 4 rfl).up 4 rfl).up 4 rfl).up 4 rfl)) ((i : Nat) : Int) i rfl hL hT hi (by have := hn.out; omega) (by have := hl.out; omega) (by have := hd.out; omega) (by have := hd.out; omega)).mono ?_))
  rintro e w13 ⟨m14, ks15, rfl, h_⟩
  refine ⟨_, rfl, ?_⟩
  replace hM : Ms w0 w13 (blk (p) (snc (s) (P) ((kyk s P 0)) (.pointer (some ⟨q, 0, none⟩)) (.slice (some ⟨g, 0, none⟩) (d) (d))) 115 :: wk q n L (i + 1) m14 :: blk (g) (kcs (ks15)) 23 :: pu (Mi n d (i + 1) L ks15) :: blk (w.heap.size) (pkc (0) (⟨#[]⟩) (⟨#[]⟩) (0) (zk)) 39 :: R) := h_
  clear h_
  try simp only [nz]
  refine wl_nil (κ12 _ _ ?_)
  refine wp_seq_k fun _ κ16 => wl_region (wl_fare kn ?_)
  simp (disch := omega) only [fx, pv, kx]
  refine wl_give rfl (g_cM hM (kf51 _ _) (key_op (show Ms w0 w13 (blk (p) (snc (s) (P) ((kyk s P 0)) (.pointer (some ⟨q, 0, none⟩)) (.slice (some ⟨g, 0, none⟩) (d) (d))) 115 :: wk q n L (i + 1) m14 :: blk (g) (kcs (ks15)) 23 :: pu (Mi n d (i + 1) L ks15) :: blk (w.heap.size) (pkc (0) (⟨#[]⟩) (⟨#[]⟩) (0) (zk)) 39 :: R) from ((((hM.up 3 rfl).up 3 rfl).up 3 rfl).up 3 rfl)) ((i : Nat) : Int) i rfl hL (by omega) (by have := hd.out; omega) (by have := hd.out; omega) K1 hK1) rfl fun w17 hM => wl_fare kn ?_)
  simp (disch := omega) only [fx, pv, kx]
  refine wl_give rfl (g_cM hM (kf54 _ _) (tagS_any K1 ((i : Nat) : Int) x w17 (hM.tabs hT) (by omega) G hG) rfl fun w18 hM => ?_)
  try simp only [nz]
  refine wl_give rfl (g_bldPk3 _ _ _ (((i : Nat) : Int)) (x) (G) rfl rfl rfl ?_)
  try simp only [nz]
  refine wl_give rfl (g_alloc 39 (pkc (0) (⟨#[]⟩) (⟨#[]⟩) (0) (zk)) zeroPk fun w19 t_ b_ => ?_)
  replace hM := hM.new t_ b_
  clear t_ b_
  try simp only [nz]
  refine wl_give rfl (g_store_all 39 _ _ (w18.heap.size) (pkc (((i : Nat) : Int)) (x) (G) (0) (zk)) _ 39 rfl rfl (hM.get 0 rfl) (szPk _ _ _ _ _) (kk2_len _ _ _ _ _ _ _ _ _ _) (one_pkc _ _ _ _ _) fun w20 t_ b_ => ?_)
  replace hM : Ms w0 w20 (blk (w18.heap.size) (pkc (((i : Nat) : Int)) (x) (G) (0) (zk)) 39 :: blk (p) (snc (s) (P) ((kyk s P 0)) (.pointer (some ⟨q, 0, none⟩)) (.slice (some ⟨g, 0, none⟩) (d) (d))) 115 :: wk q n L (i + 1) m14 :: blk (g) (kcs (ks15)) 23 :: pu (Mi n d (i + 1) L ks15) :: blk (w.heap.size) (pkc (0) (⟨#[]⟩) (⟨#[]⟩) (0) (zk)) 39 :: R) := hM.put 0 rfl t_ b_
  clear t_ b_
  try simp only [nz]
  refine wl_nil (κ16 _ _ ?_)
  refine wp_seq_k fun _ κ21 => wp_seq_k fun _ κ22 => wl_region (wl_fare kn ?_)
  simp (disch := omega) only [fx, pv, kx]
  refine wl_give rfl (g_load 25 _ (p) (32) 4 _ 115 _ rfl (hM.get 1 rfl) Tryz.underlying25 rfl sizeP (by rw [snc_length]; decide) (plc (P)) (sn_plan _ _ _ _ _) ?_)
  refine wl_fare kn ?_
  simp (disch := omega) only [fx, pv, kx]
  refine wl_give rfl (g_cM hM (kf55 _ _) (ptells_any P ((i : Nat) : Int) w20 T hTe) rfl fun w23 hM => wl_fare kn ?_)
  simp (disch := omega) only [fx, pv, kx]
  refine wl_nil (κ22 _ _ ?_)
  refine wp_seq_k fun _ κ24 => wl_region (wl_fare kn ?_)
  simp (disch := omega) only [fx, pv, kx]
  refine wl_nil (κ24 _ _ ?_)
  refine wp_cond_true rfl (wl_region (wl_fare kn ?_))
  simp (disch := omega) only [fx, pv, kx]
  refine wl_give rfl (g_cM hM (kf51 _ _) (key_op (show Ms w0 w23 (blk (p) (snc (s) (P) ((kyk s P 0)) (.pointer (some ⟨q, 0, none⟩)) (.slice (some ⟨g, 0, none⟩) (d) (d))) 115 :: wk q n L (i + 1) m14 :: blk (g) (kcs (ks15)) 23 :: pu (Mi n d (i + 1) L ks15) :: blk (w18.heap.size) (pkc (((i : Nat) : Int)) (x) (G) (0) (zk)) 39 :: blk (w.heap.size) (pkc (0) (⟨#[]⟩) (⟨#[]⟩) (0) (zk)) 39 :: R) from ((((hM.up 4 rfl).up 4 rfl).up 4 rfl).up 4 rfl)) T j hTj hL (by omega) (by have := hd.out; omega) (by have := hd.out; omega) K2 hK2) rfl fun w25 hM => wl_fare kn ?_)
  simp (disch := omega) only [fx, pv, kx]
  refine wl_give rfl (g_st1 3 _ _ (w18.heap.size) (3) (.int .i64 (T)) _ 39 rfl rfl (hM.get 0 rfl) (by rw [pkc_length]; decide) rfl rfl size3 fun w26 t_ b_ => ?_)
  replace hM : Ms w0 w26 (blk (w18.heap.size) (pkc (((i : Nat) : Int)) (x) (G) (T) (zk)) 39 :: blk (p) (snc (s) (P) ((kyk s P 0)) (.pointer (some ⟨q, 0, none⟩)) (.slice (some ⟨g, 0, none⟩) (d) (d))) 115 :: wk q n L (i + 1) m14 :: blk (g) (kcs (ks15)) 23 :: pu (Mi n d (i + 1) L ks15) :: blk (w.heap.size) (pkc (0) (⟨#[]⟩) (⟨#[]⟩) (0) (zk)) 39 :: R) := hM.put 0 rfl t_ b_
  clear t_ b_
  refine wl_fare kn ?_
  simp (disch := omega) only [fx, pv, kx]
  refine wl_give rfl (g_storeN 23 _ _ (w18.heap.size) (4) (kc (K2)) _ 39 (pkc (((i : Nat) : Int)) (x) (G) (T) (K2)) rfl rfl (hM.get 0 rfl) (szK _) (by rw [kc_length, pkc_length]; decide) (one_kc _) (pk_put _ _ _ _ _ _) fun w27 t_ b_ => ?_)
  replace hM : Ms w0 w27 (blk (w18.heap.size) (pkc (((i : Nat) : Int)) (x) (G) (T) (K2)) 39 :: blk (p) (snc (s) (P) ((kyk s P 0)) (.pointer (some ⟨q, 0, none⟩)) (.slice (some ⟨g, 0, none⟩) (d) (d))) 115 :: wk q n L (i + 1) m14 :: blk (g) (kcs (ks15)) 23 :: pu (Mi n d (i + 1) L ks15) :: blk (w.heap.size) (pkc (0) (⟨#[]⟩) (⟨#[]⟩) (0) (zk)) 39 :: R) := hM.put 0 rfl t_ b_
  clear t_ b_
  try simp only [nz]
  refine wl_nil (κ21 _ _ ?_)
  refine wp_seq_k fun _ κ28 => wl_region (wl_give rfl (g_load_all 39 _ (w18.heap.size) (pkc (((i : Nat) : Int)) (x) (G) (T) (K2)) 39 _ rfl (hM.get 0 rfl) Tryz.underlying39 rfl (szPk _ _ _ _ _) ?_))
  try simp only [nz]
  refine wl_give rfl (g_store_all 39 _ _ (w.heap.size) (pkc (((i : Nat) : Int)) (x) (G) (T) (K2)) _ 39 rfl rfl (hM.get 5 rfl) (szPk _ _ _ _ _) (kk2_len _ _ _ _ _ _ _ _ _ _) (one_pkc _ _ _ _ _) fun w29 t_ b_ => ?_)
  replace hM : Ms w0 w29 (blk (w18.heap.size) (pkc (((i : Nat) : Int)) (x) (G) (T) (K2)) 39 :: blk (p) (snc (s) (P) ((kyk s P 0)) (.pointer (some ⟨q, 0, none⟩)) (.slice (some ⟨g, 0, none⟩) (d) (d))) 115 :: wk q n L (i + 1) m14 :: blk (g) (kcs (ks15)) 23 :: pu (Mi n d (i + 1) L ks15) :: blk (w.heap.size) (pkc (((i : Nat) : Int)) (x) (G) (T) (K2)) 39 :: R) := hM.put 5 rfl t_ b_
  clear t_ b_
  refine wl_fare kn ?_
  simp (disch := omega) only [fx, pv, kx]
  refine wl_nil (κ28 _ _ ?_)
  refine wp_ret ?_
  (try simp only [Exit.inBlock, Exit.then])
  exact bodyPost_ret (results_blk_tmp rfl _ (pkc (((i : Nat) : Int)) (x) (G) (T) (K2)) (.int .i64 (0)) _ rfl rfl (hM.get 5 rfl) Tryz.underlying39 rfl (szPk _ _ _ _ _)) rfl ⟨rfl, sn_seal (l := ((i : Nat) : Int)) ((((((hM.erase 0).erase 4).up 3 rfl).up 3 rfl).up 3 rfl).up 3 rfl) hL hP hn hd ⟨by omega⟩ (by omega) (by have := hn.out; omega)⟩
theorem send_any {w0 w : World} {R : List HP} {p : Nat} {s : Ky} {P : Pl} {l : Int} (hM : Ms w0 w (sn p s P l :: R)) (hT : Tabs w0) (t : Int) (ht : -9223372036854775808 ≤ t ∧ t ≤ 9223372036854775807) (x : ByteArray) (i' : Int) (x' g' : ByteArray) (t' : Int) (k' : Ky) (E l' : Int) (h : Shut (sdA s P l t x = ((⟨i', x', g', t', k'⟩, E), l'))) :
    Calls Tryz.prog 27 #[.pointer (some ⟨p, 0, none⟩), .int .i64 t, .string x] w fun e w' => e = .returned (.tuple #[.agg (pkc i' x' g' t' k').toArray, .int .i64 E]) ∧ Ms w0 w' (sn p s P l' :: R) := by
  have h := h.out
  obtain ⟨q, g, n, d, a, m, L, ks, hL, hP, hn, hd, hl, hl0, hl1, hM⟩ := sn_opened hM
  unfold sdA at h
  obtain ⟨J, E1, hpat⟩ : ∃ J E1, pat P t = (J, E1) := ⟨_, _, rfl⟩
  rw [hpat] at h
  by_cases hE : E1 ≠ 0
  · rw [if_pos hE] at h; cases h
    exact send_e x J _ hM hT hL hP hn hd hl hl0 hl1 ht ⟨hpat⟩ hE
  · rw [if_neg hE] at h
    obtain rfl : E1 = 0 := Decidable.not_not.1 hE
    by_cases hJ : J < l
    · rw [if_pos hJ] at h; cases h
      exact send_late x J hM hT hL hP hn hd hl hl0 hl1 ht ⟨hpat⟩ hJ
    · rw [if_neg hJ] at h
      by_cases hx : 1000 < x.size
      · rw [if_pos hx] at h; cases h
        exact send_size x J hM hT hL hP hn hd hl hl0 hl1 ht ⟨hpat⟩ hJ (by omega)
      · rw [if_neg hx] at h
        rcases pat_cases hP t with ⟨e, _⟩ | ⟨e, _⟩ | ⟨i, i1, i2, e, _⟩
        · rw [e] at hpat; cases hpat
        · rw [e] at hpat; cases hpat
        · rw [e] at hpat
          obtain rfl : ((i : Nat) : Int) = J := congrArg Prod.fst hpat
          have hnn := hn.out
          have b1 : 1 ≤ n ∧ n ≤ 1024 := by omega
          have k1 : kyk s P ((i : Nat) : Int) = wl (n - i) L := by rw [kyk_nat b1.1 b1.2 hnn i (by omega), hL.out]
          unfold sdP at h
          simp only [Prod.mk.injEq, Pk.mk.injEq] at h
          obtain ⟨⟨⟨rfl, rfl, rfl, rfl, rfl⟩, rfl⟩, rfl⟩ := h
          by_cases hT0 : 0 < pte P ((i : Nat) : Int)
          · have hte := pte_le hP (i := (i : Int)) (by omega) i2
            rw [if_pos hT0]
            obtain ⟨j, hj⟩ : ∃ j : Nat, pte P ((i : Nat) : Int) = (j : Int) := ⟨(pte P ((i : Nat) : Int)).toNat, by omega⟩
            have k2 : kyk s P (pte P ((i : Nat) : Int)) = wl (n - j) L := by rw [hj, kyk_nat b1.1 b1.2 hnn j (by omega), hL.out]
            exact send_told x i (by omega) _ ⟨k1.symm⟩ _ ⟨rfl⟩ _ ⟨rfl⟩ hM hT hL hP hn hd hl hl0 hl1 ht ⟨e⟩ hJ (by omega) hT0 j hj (by omega) (by omega) _ ⟨k2.symm⟩
          · have hte := pte_le hP (i := (i : Int)) (by omega) i2
            have z : pte P ((i : Nat) : Int) = 0 := by omega
            rw [if_neg hT0, z]
            exact send_none x i (by omega) _ ⟨k1.symm⟩ _ ⟨rfl⟩ ⟨z⟩ hM hT hL hP hn hd hl hl0 hl1 ht ⟨e⟩ hJ (by omega)
end Go.Proofs.YtcclcemdodoiiaaGreatDoor
