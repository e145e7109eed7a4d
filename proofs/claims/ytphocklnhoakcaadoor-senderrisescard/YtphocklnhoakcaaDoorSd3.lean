/- What sender.New, (*Sender).Send and (*Sender).Renew answer, and what they do to a sender. -/
import Derived.Test.YtphocklnhoakcaaDoorSd2
import Derived.Test.YtphocklnhoakcaaDoorPl2
import Derived.WalkKit
import Derived.WalkSpells
import Derived.WalkLawsBesides
namespace Go.Proofs.YtphocklnhoakcaaDoor
set_option maxRecDepth 10000
open Go Go.RowKit
set_option linter.unusedVariables false
set_option linter.unusedSimpArgs false

theorem mind_op {w0 w : World} {R : List HP} {p q g n d a m : Nat} {s L : Ky} {P : Pl} {k : Ky} {ks : List Ky} (hM : Ms w0 w (blk (p) (snc (s) (P) (k) (.pointer (some ⟨q, 0, none⟩)) (.slice (some ⟨g, 0, none⟩) (d) (d))) 66 :: wk q n L (a) m :: blk (g) (kcs (ks)) 23 :: pu (Mi n d (a) L ks) :: R)) (c : Int) (i : Nat) (hc : c = (i : Int)) (hL : Shut (tg s chainW = L)) (hT : Tabs w0) (hi : i ≤ n) (hn : n ≤ 1024) (ha : a ≤ i + 1) (hd : 2 ≤ d) (hd2 : d ≤ 1000) :
    Calls Tryd.prog 26 #[.pointer (some ⟨p, 0, none⟩), .int .i64 c] w fun e w' => ∃ m' ks', e = .returned (.tuple #[]) ∧ Ms w0 w' (blk (p) (snc (s) (P) (k) (.pointer (some ⟨q, 0, none⟩)) (.slice (some ⟨g, 0, none⟩) (d) (d))) 66 :: wk q n L (i + 1) m' :: blk (g) (kcs (ks')) 23 :: pu (Mi n d (i + 1) L ks') :: R) := by
  subst hc
  cases hL with | mk hL =>
  subst hL
  obtain ⟨hmi, h1⟩ := Ms.unpu (hM.up 3 rfl)
  refine (mind_any i (sv_mk h1 hmi) hT hi hn (by omega) hd hd2).mono ?_
  rintro e w' ⟨rfl, h2⟩
  obtain ⟨m', ks', h3, h4⟩ := sv_open h2
  rw [show max a (i + 1) = i + 1 by omega] at h3 h4
  exact ⟨m', ks', rfl, (Ms.mkpu h3 h4).down 3 rfl⟩
theorem key_op {w0 w : World} {R : List HP} {p q g n d a m : Nat} {s L : Ky} {P : Pl} {k : Ky} {ks : List Ky} (hM : Ms w0 w (blk (p) (snc (s) (P) (k) (.pointer (some ⟨q, 0, none⟩)) (.slice (some ⟨g, 0, none⟩) (d) (d))) 66 :: wk q n L (a) m :: blk (g) (kcs (ks)) 23 :: pu (Mi n d (a) L ks) :: R)) (c : Int) (i : Nat) (hc : c = (i : Int)) (hL : Shut (tg s chainW = L)) (h1 : i < a) (h2 : a ≤ i + d) (hd : 0 < d) (K : Ky) (hK : Shut (wl (n - i) L = K)) :
    Calls Tryd.prog 27 #[.pointer (some ⟨p, 0, none⟩), .int .i64 c] w fun e w' => e = .returned (.agg (kc K).toArray) ∧ Below w.heap.size w w' := by
  subst hc
  cases hL with | mk hL =>
  subst hL
  obtain ⟨hmi, h3⟩ := Ms.unpu (hM.up 3 rfl)
  exact skey_any i (sv_mk h3 hmi) h1 h2 hd K hK
theorem last_op {w0 w : World} {R : List HP} {p q g n d a m : Nat} {s L : Ky} {P : Pl} {k : Ky} {ks : List Ky} (hM : Ms w0 w (blk (p) (snc (s) (P) (k) (.pointer (some ⟨q, 0, none⟩)) (.slice (some ⟨g, 0, none⟩) (d) (d))) 66 :: wk q n L (a) m :: blk (g) (kcs (ks)) 23 :: pu (Mi n d (a) L ks) :: R)) (l : Int) (hl : Shut (l + 1 = (a : Int))) (ha : 1 ≤ a) (ha2 : a ≤ 2000) : Calls Tryd.prog 17 #[.pointer (some ⟨p, 0, none⟩)] w fun e w' => e = .returned (.int .i64 l) ∧ Below w.heap.size w w' := by
  obtain ⟨b, rfl⟩ : ∃ b : Nat, l = b := ⟨l.toNat, by have := hl.out; omega⟩
  exact last_a (b := b) w (hM.get 0 rfl) (wat_any (hM.up 1 rfl)) ⟨by rw [wrap_id _ (by omega) (by omega)]; have := hl.out; omega⟩
theorem sn_seal {w0 w : World} {R : List HP} {p q g n d a m : Nat} {s L : Ky} {P : Pl} {ks : List Ky} {l : Int} (hM : Ms w0 w (blk (p) (snc (s) (P) ((kyk s P 0)) (.pointer (some ⟨q, 0, none⟩)) (.slice (some ⟨g, 0, none⟩) (d) (d))) 66 :: wk q n L (a) m :: blk (g) (kcs (ks)) 23 :: pu (Mi n d (a) L ks) :: R)) (hL : Shut (tg s chainW = L)) (hP : POk P) (hn : Shut (P.ct = (n : Int))) (hd : Shut (P.dl + 1 = (d : Int))) (hl : Shut (l + 1 = (a : Int))) (h2 : 0 ≤ l) (h3 : l ≤ P.ct) : Ms w0 w (sn p s P l :: R) := by
  cases hL with | mk hL =>
  subst hL
  obtain ⟨hmi, h1⟩ := Ms.unpu (hM.up 3 rfl)
  have e1 : P.ct.toNat = n := by have := hn.out; omega
  have e2 : P.dl.toNat + 1 = d := by have := hd.out; omega
  have e3 : l.toNat + 1 = a := by have := hl.out; omega
  refine sn_mk (q := q) (g := g) ?_ hP h2 h3
  rw [e1, e2, e3]
  exact sv_mk h1 hmi
theorem sn_opened {w0 w : World} {R : List HP} {p : Nat} {s : Ky} {P : Pl} {l : Int} (h : Ms w0 w (sn p s P l :: R)) : ∃ (q g n d a m : Nat) (L : Ky) (ks : List Ky), Shut (tg s chainW = L) ∧ POk P ∧ Shut (P.ct = (n : Int)) ∧ Shut (P.dl + 1 = (d : Int)) ∧ Shut (l + 1 = (a : Int)) ∧ 0 ≤ l ∧ l ≤ P.ct ∧ Ms w0 w (blk (p) (snc (s) (P) ((kyk s P 0)) (.pointer (some ⟨q, 0, none⟩)) (.slice (some ⟨g, 0, none⟩) (d) (d))) 66 :: wk q n L (a) m :: blk (g) (kcs (ks)) 23 :: pu (Mi n d (a) L ks) :: R) := by
  obtain ⟨q, g, ⟨h1, h2, h3⟩, h⟩ := sn_open h
  obtain ⟨m, ks, hmi, h⟩ := sv_open h
  refine ⟨q, g, P.ct.toNat, P.dl.toNat + 1, l.toNat + 1, m, _, ks, ⟨rfl⟩, h1, ⟨by omega⟩, ⟨by omega⟩, ⟨by omega⟩, h2, h3, (Ms.mkpu hmi h).down 3 rfl⟩
theorem wnew_v (s : Ky) (c : Int) (n : Nat) (hc : c = (n : Int)) (L : Ky) (w0 w : World) (R : List HP) (hM : Ms w0 w R) (hT : Tabs w0) (h1 : 1 ≤ n) (h2 : n ≤ 1024) (hL : Shut (tg s ⟨#[99, 104, 97, 105, 110]⟩ = L)) : Calls Tryd.prog 25 #[.agg (kc s).toArray, .int .i64 c] w fun e w' => ∃ p, e = .returned (.tuple #[.pointer (some ⟨p, 0, none⟩), .int .i64 0]) ∧ Ms w0 w' (wk p n L 0 1 :: R) := by
  subst hc
  exact wnew_any s n L w0 w R hM hT h1 h2 hL
set_option maxHeartbeats 4000000 in
theorem snew_bad (s : Ky) (P : Pl) (w : World) (hP : ¬ POk P) : Calls Tryd.prog 10 #[.agg (kc s).toArray, .agg (plc P).toArray] w fun e w' => e = .returned (.tuple #[.pointer none, .int .i64 1]) ∧ Below w.heap.size w w' := by
  have hM := Ms.refl w
  go_enter Tryd.func10, Tryd.ntmps10
  refine wp_seq_k (fun K1 hK1 => ?_)
  refine wl_region ?_
  refine wl_give rfl (g_box 23 _ (kc (s)) rfl ?_)
  intro w2 t_ b_
  replace hM := hM.new t_ b_
  clear t_ b_
  (try simp only [Act.put, st_a, st_0, st_s])
  refine wl_give rfl (g_box 25 _ (plc (P)) rfl ?_)
  intro w3 t_ b_
  replace hM := hM.new t_ b_
  clear t_ b_
  (try simp only [Act.put, st_a, st_0, st_s])
  refine wl_give rfl (g_assign _ (.pointer none) rfl ?_)
  (try simp only [Act.put, st_a, st_0, st_s])
  refine wl_give rfl (g_assign _ (.int .i64 (0)) rfl ?_)
  (try simp only [Act.put, st_a, st_0, st_s])
  refine wl_nil ?_
  refine hK1 _ _ ?_
  (try clear hK1 K1)
  refine wp_seq_k (fun K4 hK4 => ?_)
  refine wp_seq_k (fun K5 hK5 => ?_)
  refine wl_region ?_
  refine wl_give rfl (g_load_all 25 _ (w2.heap.size) (plc (P)) 25 _ rfl (hM.get 0 rfl) Tryd.underlying25 rfl (szPl _) ?_)
  (try simp only [Act.put, st_a, st_0, st_s])
  refine wl_give rfl (g_call 11 _ _ [.agg (plc (P)).toArray] (kf11 _ _) rfl ((may_no P w3 hP).mono ?_))
  rintro e w6 ⟨rfl, t_⟩
  refine ⟨_, rfl, ?_⟩
  replace hM := hM.call t_
  clear t_
  (try simp only [Act.put, st_a, st_0, st_s])
  refine wl_give rfl (g_unot 4 _ false rfl ?_)
  (try simp only [Act.put, st_a, st_0, st_s])
  refine wl_nil ?_
  refine hK5 _ _ ?_
  (try clear hK5 K5)
  refine wp_cond_true rfl ?_
  refine wp_seq_k (fun K7 hK7 => ?_)
  refine wl_region ?_
  refine wl_give rfl (g_assign _ (.pointer none) rfl ?_)
  (try simp only [Act.put, st_a, st_0, st_s])
  refine wl_give rfl (g_assign _ (.int .i64 (1)) rfl ?_)
  (try simp only [Act.put, st_a, st_0, st_s])
  refine wl_nil ?_
  refine hK7 _ _ ?_
  (try clear hK7 K7)
  refine wp_ret ?_
  go_ret2
  exact ⟨rfl, hM.below⟩
set_option maxHeartbeats 4000000 in
theorem snew_any (s : Ky) (P : Pl) (w0 w : World) (R : List HP) (hM : Ms w0 w R) (hT : Tabs w0) (hP : POk P) : Calls Tryd.prog 10 #[.agg (kc s).toArray, .agg (plc P).toArray] w fun e w' => ∃ p, e = .returned (.tuple #[.pointer (some ⟨p, 0, none⟩), .int .i64 0]) ∧ Ms w0 w' (sn p s P 0 :: R) := by
  obtain ⟨n, hn⟩ : ∃ n : Nat, Shut (P.ct = (n : Int)) := ⟨P.ct.toNat, ⟨by omega⟩⟩
  obtain ⟨d, hd⟩ : ∃ d : Nat, Shut (P.dl + 1 = (d : Int)) := ⟨P.dl.toNat + 1, ⟨by omega⟩⟩
  obtain ⟨L, hL0⟩ : ∃ L, tg s chainW = L := ⟨_, rfl⟩
  have hL : Shut (tg s chainW = L) := ⟨hL0⟩
  have b1 : 1 ≤ n ∧ n ≤ 1024 := by have := hn.out; omega
  have b2 : 2 ≤ d ∧ d ≤ 17 := by have := hd.out; omega
  have hdl : Shut (IntKind.i64.wrap (P.dl + 1) = P.dl + 1) := ⟨wrap_id _ (by omega) (by omega)⟩
  have hK0 : Shut (wl (n - 0) L = kyk s P 0) := ⟨by have e := kyk_nat b1.1 b1.2 hn.out (s := s) 0 (by omega); rw [hL0] at e; exact e.symm⟩
  go_enter Tryd.func10, Tryd.ntmps10
  refine wp_seq_k (fun K1 hK1 => ?_)
  refine wl_region ?_
  refine wl_give rfl (g_box 23 _ (kc (s)) rfl ?_)
  intro w2 t_ b_
  replace hM := hM.new t_ b_
  clear t_ b_
  (try simp only [Act.put, st_a, st_0, st_s])
  refine wl_give rfl (g_box 25 _ (plc (P)) rfl ?_)
  intro w3 t_ b_
  replace hM := hM.new t_ b_
  clear t_ b_
  (try simp only [Act.put, st_a, st_0, st_s])
  refine wl_give rfl (g_assign _ (.pointer none) rfl ?_)
  (try simp only [Act.put, st_a, st_0, st_s])
  refine wl_give rfl (g_assign _ (.int .i64 (0)) rfl ?_)
  (try simp only [Act.put, st_a, st_0, st_s])
  refine wl_nil ?_
  refine hK1 _ _ ?_
  (try clear hK1 K1)
  refine wp_seq_k (fun K4 hK4 => ?_)
  refine wp_seq_k (fun K5 hK5 => ?_)
  refine wl_region ?_
  refine wl_give rfl (g_load_all 25 _ (w2.heap.size) (plc (P)) 25 _ rfl (hM.get 0 rfl) Tryd.underlying25 rfl (szPl _) ?_)
  (try simp only [Act.put, st_a, st_0, st_s])
  refine wl_give rfl (g_call 11 _ _ [.agg (plc (P)).toArray] (kf11 _ _) rfl ((may_yes P w3 hP).mono ?_))
  rintro e w6 ⟨rfl, t_⟩
  refine ⟨_, rfl, ?_⟩
  replace hM := hM.call t_
  clear t_
  (try simp only [Act.put, st_a, st_0, st_s])
  refine wl_give rfl (g_unot 4 _ true rfl ?_)
  (try simp only [Act.put, st_a, st_0, st_s])
  refine wl_nil ?_
  refine hK5 _ _ ?_
  (try clear hK5 K5)
  refine wp_cond_false rfl ?_
  refine wp_skip ?_
  refine hK4 _ _ ?_
  (try clear hK4 K4)
  refine wp_seq_k (fun K7 hK7 => ?_)
  refine wl_region ?_
  refine wl_give rfl (g_load_all 23 _ (w.heap.size) (kc (s)) 23 _ rfl (hM.get 1 rfl) Tryd.underlying23 rfl (szK _) ?_)
  (try simp only [Act.put, st_a, st_0, st_s])
  refine wl_give rfl (g_fa 25 _ (w2.heap.size) (0) (3) 3 rfl (faPl3 _ _ _) ?_)
  (try simp only [Act.put, st_a, st_0, st_s])
  refine wl_give rfl (g_ld1 3 _ (w2.heap.size) (3) _ rfl (ld3 _ _ _ _ ((hM.get 0 rfl).cell (3) _ (rfl))) ?_)
  (try simp only [Act.put, st_a, st_0, st_s])
  refine wl_give rfl (g_call 25 _ _ [.agg (kc (s)).toArray, .int .i64 ((P).ct)] (kf25 _ _) rfl ((wnew_v s P.ct n hn.out L w0 w6 _ hM hT (by omega) (by omega) hL).mono ?_))
  rintro e w8 ⟨q9, rfl, h_⟩
  refine ⟨_, rfl, ?_⟩
  replace hM : Ms w0 w8 (wk q9 n L 0 1 :: blk (w2.heap.size) (plc (P)) 25 :: blk (w.heap.size) (kc (s)) 23 :: R) := h_
  clear h_
  (try simp only [Act.put, st_a, st_0, st_s])
  refine wl_give rfl (g_move _ (.tuple #[.pointer (some ⟨q9, 0, none⟩), .int .i64 (0)]) rfl ?_)
  (try simp only [Act.put, st_a, st_0, st_s])
  refine wl_give rfl (g_extract _ #[.pointer (some ⟨q9, 0, none⟩), .int .i64 (0)] 0 (.pointer (some ⟨q9, 0, none⟩)) rfl rfl ?_)
  (try simp only [Act.put, st_a, st_0, st_s])
  refine wl_give rfl (g_extract _ #[.pointer (some ⟨q9, 0, none⟩), .int .i64 (0)] 1 (.int .i64 (0)) rfl rfl ?_)
  (try simp only [Act.put, st_a, st_0, st_s])
  refine wl_give rfl (g_assign _ (.pointer (some ⟨q9, 0, none⟩)) rfl ?_)
  (try simp only [Act.put, st_a, st_0, st_s])
  refine wl_give rfl (g_assign _ (.int .i64 (0)) rfl ?_)
  (try simp only [Act.put, st_a, st_0, st_s])
  refine wl_nil ?_
  refine hK7 _ _ ?_
  (try clear hK7 K7)
  refine wp_seq_k (fun K10 hK10 => ?_)
  refine wp_region_steps (by kernel_rfl) (by kernel_rfl) [6, 8] [0, 0, 0, 0, 0, 0, 0, 1, 1, 2] [2, 2, 2, 2, 2, 0, 2, 1, 2, 2] (by kernel_rfl) (Pm := Nat × Nat) (fun π => [.agg (kc (s)).toArray, .agg (plc (P)).toArray, .pointer (some ⟨q9, 0, none⟩), .pointer (some ⟨w2.heap.size, 2, none⟩), .int .i64 ((P).dl), .int .i64 (P.dl + 1), .slice (some ⟨π.1, 0, none⟩) (d) (d), .agg (snc (s) (P) (zk) (.pointer (some ⟨q9, 0, none⟩)) (.slice (some ⟨π.1, 0, none⟩) (d) (d))).toArray, .pointer (some ⟨π.2, 0, none⟩), .pointer (some ⟨π.2, 0, none⟩)]) (fun _ => by rfl) (fun j_ π wx => match j_ with | 0 => Ms w0 wx (wk q9 n L 0 1 :: blk (w2.heap.size) (plc (P)) 25 :: blk (w.heap.size) (kc (s)) 23 :: R) | 1 => Ms w0 wx (blk (π.1) (kcs (List.replicate (d) zk)) 23 :: wk q9 n L 0 1 :: blk (w2.heap.size) (plc (P)) 25 :: blk (w.heap.size) (kc (s)) 23 :: R) | _ => Ms w0 wx (blk (π.2) (snc (s) (P) (zk) (.pointer (some ⟨q9, 0, none⟩)) (.slice (some ⟨π.1, 0, none⟩) (d) (d))) 66 :: blk (π.1) (kcs (List.replicate (d) zk)) 23 :: wk q9 n L 0 1 :: blk (w2.heap.size) (plc (P)) 25 :: blk (w.heap.size) (kc (s)) 23 :: R)) (0, 0) hM.drew ?_ ?_ ?_
  · intro j_ k_ o_ hj_ ho_ π wx hM
    rcases j_ with _ | _ | j_
    · obtain rfl := Option.some.inj hj_
      obtain rfl := Option.some.inj ho_
      simp only [fullL, Act.put, st_a, st_s, st_0]
      replace hM : Ms w0 wx (wk q9 n L 0 1 :: blk (w2.heap.size) (plc (P)) 25 :: blk (w.heap.size) (kc (s)) 23 :: R) := hM
      exact gw rfl (g_mkK _ _ (d) (P.dl + 1) rfl rfl (hd.out) (by omega) (fun w' t_ b_ => ⟨(wx.heap.size, π.2), rfl, fun i h1 h2 => by rcases i with _ | _ | _ | _ | _ | _ | _ | _ | _ | _ | i <;> first | rfl | trivial | exact absurd rfl h2 | exact absurd h1 (by decide), hM.new t_ b_⟩))
    · obtain rfl := Option.some.inj hj_
      obtain rfl := Option.some.inj ho_
      simp only [fullL, Act.put, st_a, st_s, st_0]
      replace hM : Ms w0 wx (blk (π.1) (kcs (List.replicate (d) zk)) 23 :: wk q9 n L 0 1 :: blk (w2.heap.size) (plc (P)) 25 :: blk (w.heap.size) (kc (s)) 23 :: R) := hM
      exact gw rfl (g_box 66 _ (snc (s) (P) (zk) (.pointer (some ⟨q9, 0, none⟩)) (.slice (some ⟨π.1, 0, none⟩) (d) (d))) rfl (fun w' t_ b_ => ⟨(π.1, wx.heap.size), rfl, fun i h1 h2 => by rcases i with _ | _ | _ | _ | _ | _ | _ | _ | _ | _ | i <;> first | rfl | trivial | exact absurd rfl h2 | exact absurd h1 (by decide), hM.new t_ b_⟩))
    · simp at hj_
  · intro i_ o_ ho_ hi_ j_ hd_ hh_ hj_ π wx hM
    simp only [fullL, Act.put, st_a, st_s, st_0]
    rcases i_ with _ | _ | _ | _ | _ | _ | _ | _ | _ | _ | i_
    · obtain rfl := Option.some.inj ho_
      rcases j_ with _ | _ | _ | j_
      · replace hM : Ms w0 wx (wk q9 n L 0 1 :: blk (w2.heap.size) (plc (P)) 25 :: blk (w.heap.size) (kc (s)) 23 :: R) := hM
        exact gw rfl (g_load_all 23 _ (w.heap.size) (kc (s)) 23 _ rfl (hM.get 2 rfl) Tryd.underlying23 rfl (szK _) ⟨rfl, hM⟩)
      · replace hM : Ms w0 wx (blk (π.1) (kcs (List.replicate (d) zk)) 23 :: wk q9 n L 0 1 :: blk (w2.heap.size) (plc (P)) 25 :: blk (w.heap.size) (kc (s)) 23 :: R) := hM
        exact gw rfl (g_load_all 23 _ (w.heap.size) (kc (s)) 23 _ rfl (hM.get 3 rfl) Tryd.underlying23 rfl (szK _) ⟨rfl, hM⟩)
      · replace hM : Ms w0 wx (blk (π.2) (snc (s) (P) (zk) (.pointer (some ⟨q9, 0, none⟩)) (.slice (some ⟨π.1, 0, none⟩) (d) (d))) 66 :: blk (π.1) (kcs (List.replicate (d) zk)) 23 :: wk q9 n L 0 1 :: blk (w2.heap.size) (plc (P)) 25 :: blk (w.heap.size) (kc (s)) 23 :: R) := hM
        exact gw rfl (g_load_all 23 _ (w.heap.size) (kc (s)) 23 _ rfl (hM.get 4 rfl) Tryd.underlying23 rfl (szK _) ⟨rfl, hM⟩)
      · exact absurd hj_ (by simp)
    · obtain rfl := Option.some.inj ho_
      rcases j_ with _ | _ | _ | j_
      · replace hM : Ms w0 wx (wk q9 n L 0 1 :: blk (w2.heap.size) (plc (P)) 25 :: blk (w.heap.size) (kc (s)) 23 :: R) := hM
        exact gw rfl (g_load_all 25 _ (w2.heap.size) (plc (P)) 25 _ rfl (hM.get 1 rfl) Tryd.underlying25 rfl (szPl _) ⟨rfl, hM⟩)
      · replace hM : Ms w0 wx (blk (π.1) (kcs (List.replicate (d) zk)) 23 :: wk q9 n L 0 1 :: blk (w2.heap.size) (plc (P)) 25 :: blk (w.heap.size) (kc (s)) 23 :: R) := hM
        exact gw rfl (g_load_all 25 _ (w2.heap.size) (plc (P)) 25 _ rfl (hM.get 2 rfl) Tryd.underlying25 rfl (szPl _) ⟨rfl, hM⟩)
      · replace hM : Ms w0 wx (blk (π.2) (snc (s) (P) (zk) (.pointer (some ⟨q9, 0, none⟩)) (.slice (some ⟨π.1, 0, none⟩) (d) (d))) 66 :: blk (π.1) (kcs (List.replicate (d) zk)) 23 :: wk q9 n L 0 1 :: blk (w2.heap.size) (plc (P)) 25 :: blk (w.heap.size) (kc (s)) 23 :: R) := hM
        exact gw rfl (g_load_all 25 _ (w2.heap.size) (plc (P)) 25 _ rfl (hM.get 3 rfl) Tryd.underlying25 rfl (szPl _) ⟨rfl, hM⟩)
      · exact absurd hj_ (by simp)
    · obtain rfl := Option.some.inj ho_
      exact gw rfl (g_move _ (.pointer (some ⟨q9, 0, none⟩)) rfl ⟨rfl, hM⟩)
    · obtain rfl := Option.some.inj ho_
      exact gw rfl (g_fa 25 _ (w2.heap.size) (0) (2) 2 rfl (faPl2 _ _ _) ⟨rfl, hM⟩)
    · obtain rfl := Option.some.inj ho_
      rcases j_ with _ | _ | _ | j_
      · replace hM : Ms w0 wx (wk q9 n L 0 1 :: blk (w2.heap.size) (plc (P)) 25 :: blk (w.heap.size) (kc (s)) 23 :: R) := hM
        exact gw rfl (g_ld1 3 _ (w2.heap.size) (2) _ rfl (ld3 _ _ _ _ ((hM.get 1 rfl).cell (2) _ (rfl))) ⟨rfl, hM⟩)
      · replace hM : Ms w0 wx (blk (π.1) (kcs (List.replicate (d) zk)) 23 :: wk q9 n L 0 1 :: blk (w2.heap.size) (plc (P)) 25 :: blk (w.heap.size) (kc (s)) 23 :: R) := hM
        exact gw rfl (g_ld1 3 _ (w2.heap.size) (2) _ rfl (ld3 _ _ _ _ ((hM.get 2 rfl).cell (2) _ (rfl))) ⟨rfl, hM⟩)
      · replace hM : Ms w0 wx (blk (π.2) (snc (s) (P) (zk) (.pointer (some ⟨q9, 0, none⟩)) (.slice (some ⟨π.1, 0, none⟩) (d) (d))) 66 :: blk (π.1) (kcs (List.replicate (d) zk)) 23 :: wk q9 n L 0 1 :: blk (w2.heap.size) (plc (P)) 25 :: blk (w.heap.size) (kc (s)) 23 :: R) := hM
        exact gw rfl (g_ld1 3 _ (w2.heap.size) (2) _ rfl (ld3 _ _ _ _ ((hM.get 3 rfl).cell (2) _ (rfl))) ⟨rfl, hM⟩)
      · exact absurd hj_ (by simp)
    · obtain rfl := Option.some.inj ho_
      exact gw rfl (g_ia 3 _ _ .i64 (P.dl) (1) (P.dl + 1) rfl rfl hdl.out ⟨rfl, hM⟩)
    · exact absurd (by decide) hi_
    · obtain rfl := Option.some.inj ho_
      exact gw rfl (g_bldSn _ _ _ _ (s) (P) (.pointer (some ⟨q9, 0, none⟩)) (.slice (some ⟨π.1, 0, none⟩) (d) (d)) rfl rfl rfl rfl rfl rfl ⟨rfl, hM⟩)
    · exact absurd (by decide) hi_
    · obtain rfl := Option.some.inj ho_
      exact gw rfl (g_assign _ (.pointer (some ⟨π.2, 0, none⟩)) rfl ⟨rfl, hM⟩)
    · simp at ho_
  · simp only [fullL, Act.put, st_a, st_s, st_0]
    rintro ⟨p12, p13⟩ w11 hM
    replace hM : Ms w0 w11 (blk (p13) (snc (s) (P) (zk) (.pointer (some ⟨q9, 0, none⟩)) (.slice (some ⟨p12, 0, none⟩) (d) (d))) 66 :: blk (p12) (kcs (List.replicate (d) zk)) 23 :: wk q9 n L 0 1 :: blk (w2.heap.size) (plc (P)) 25 :: blk (w.heap.size) (kc (s)) 23 :: R) := hM
    refine hK10 _ _ ?_
    (try clear hK10 K10)
    refine wp_seq_k (fun K14 hK14 => ?_)
    refine wl_region ?_
    refine wl_give rfl (g_move _ (.pointer (some ⟨p13, 0, none⟩)) rfl ?_)
    (try simp only [Act.put, st_a, st_0, st_s])
    refine wl_give rfl (g_call 26 _ _ [.pointer (some ⟨p13, 0, none⟩), .int .i64 (0)] (kf26 _ _) rfl ((mind_op ((Ms.mkpu (Mi.zero (n := n) (L := L) (List.length_replicate)) (show Ms w0 w11 (blk (p13) (snc (s) (P) (zk) (.pointer (some ⟨q9, 0, none⟩)) (.slice (some ⟨p12, 0, none⟩) (d) (d))) 66 :: wk q9 n L 0 1 :: blk (p12) (kcs (List.replicate (d) zk)) 23 :: blk (w2.heap.size) (plc (P)) 25 :: blk (w.heap.size) (kc (s)) 23 :: R) from (((hM.up 1 rfl).up 2 rfl).up 2 rfl))).down 3 rfl) 0 0 rfl hL hT (by omega) (by omega) (by omega) (by omega) (by omega)).mono ?_))
    rintro e w15 ⟨m16, ks17, rfl, h_⟩
    refine ⟨_, rfl, ?_⟩
    replace hM : Ms w0 w15 (blk (p13) (snc (s) (P) (zk) (.pointer (some ⟨q9, 0, none⟩)) (.slice (some ⟨p12, 0, none⟩) (d) (d))) 66 :: wk q9 n L (0 + 1) m16 :: blk (p12) (kcs (ks17)) 23 :: pu (Mi n d (0 + 1) L ks17) :: blk (w2.heap.size) (plc (P)) 25 :: blk (w.heap.size) (kc (s)) 23 :: R) := h_
    clear h_
    (try simp only [Act.put, st_a, st_0, st_s])
    refine wl_nil ?_
    refine hK14 _ _ ?_
    (try clear hK14 K14)
    refine wp_seq_k (fun K18 hK18 => ?_)
    refine wl_region ?_
    refine wl_give rfl (g_move _ (.pointer (some ⟨p13, 0, none⟩)) rfl ?_)
    (try simp only [Act.put, st_a, st_0, st_s])
    refine wl_give rfl (g_move _ (.pointer (some ⟨p13, 0, none⟩)) rfl ?_)
    (try simp only [Act.put, st_a, st_0, st_s])
    refine wl_give rfl (g_call 27 _ _ [.pointer (some ⟨p13, 0, none⟩), .int .i64 (0)] (kf27 _ _) rfl ((key_op (show Ms w0 w15 (blk (p13) (snc (s) (P) (zk) (.pointer (some ⟨q9, 0, none⟩)) (.slice (some ⟨p12, 0, none⟩) (d) (d))) 66 :: wk q9 n L (0 + 1) m16 :: blk (p12) (kcs (ks17)) 23 :: pu (Mi n d (0 + 1) L ks17) :: blk (w2.heap.size) (plc (P)) 25 :: blk (w.heap.size) (kc (s)) 23 :: R) from ((((hM.up 3 rfl).up 3 rfl).up 3 rfl).up 3 rfl)) 0 0 rfl hL (by omega) (by omega) (by omega) (kyk s P 0) hK0).mono ?_))
    rintro e w19 ⟨rfl, t_⟩
    refine ⟨_, rfl, ?_⟩
    replace hM := hM.call t_
    clear t_
    (try simp only [Act.put, st_a, st_0, st_s])
    refine wl_give rfl (g_nil _ ⟨p13, 0, none⟩ rfl ?_)
    (try simp only [Act.put, st_a, st_0, st_s])
    refine wl_give rfl (g_fa 66 _ (p13) (0) (36) 2 rfl (faSn2 _ _ _) ?_)
    (try simp only [Act.put, st_a, st_0, st_s])
    refine wl_give rfl (g_storeN 23 _ _ (p13) (36) (kc (kyk s P 0)) _ 66 (snc (s) (P) (kyk s P 0) (.pointer (some ⟨q9, 0, none⟩)) (.slice (some ⟨p12, 0, none⟩) (d) (d))) rfl rfl (hM.get 0 rfl) (szK _) (by rw [kc_length, snc_length]; decide) (one_kc _) (sn_put _ _ _ _ _ _) ?_)
    intro w20 t_ b_
    replace hM : Ms w0 w20 (blk (p13) (snc (s) (P) (kyk s P 0) (.pointer (some ⟨q9, 0, none⟩)) (.slice (some ⟨p12, 0, none⟩) (d) (d))) 66 :: wk q9 n L (0 + 1) m16 :: blk (p12) (kcs (ks17)) 23 :: pu (Mi n d (0 + 1) L ks17) :: blk (w2.heap.size) (plc (P)) 25 :: blk (w.heap.size) (kc (s)) 23 :: R) := hM.put 0 rfl t_ b_
    clear t_ b_
    (try simp only [Act.put, st_a, st_0, st_s])
    refine wl_nil ?_
    refine hK18 _ _ ?_
    (try clear hK18 K18)
    refine wp_seq_k (fun K21 hK21 => ?_)
    refine wl_region ?_
    refine wl_give rfl (g_move _ (.pointer (some ⟨p13, 0, none⟩)) rfl ?_)
    (try simp only [Act.put, st_a, st_0, st_s])
    refine wl_give rfl (g_assign _ (.pointer (some ⟨p13, 0, none⟩)) rfl ?_)
    (try simp only [Act.put, st_a, st_0, st_s])
    refine wl_give rfl (g_assign _ (.int .i64 (0)) rfl ?_)
    (try simp only [Act.put, st_a, st_0, st_s])
    refine wl_nil ?_
    refine hK21 _ _ ?_
    (try clear hK21 K21)
    refine wp_ret ?_
    go_ret2
    exact ⟨_, rfl, sn_seal (l := 0) ((((((hM.erase 4).erase 4).up 3 rfl).up 3 rfl).up 3 rfl).up 3 rfl) hL hP hn hd ⟨rfl⟩ (by omega) (by omega)⟩
set_option maxHeartbeats 4000000 in
theorem send_e {w0 w : World} {R : List HP} {p q g n d a m : Nat} {s L : Ky} {P : Pl} {ks : List Ky} {l t : Int} (x : ByteArray) (J E : Int) (hM : Ms w0 w (blk (p) (snc (s) (P) ((kyk s P 0)) (.pointer (some ⟨q, 0, none⟩)) (.slice (some ⟨g, 0, none⟩) (d) (d))) 66 :: wk q n L (a) m :: blk (g) (kcs (ks)) 23 :: pu (Mi n d (a) L ks) :: R)) (hT : Tabs w0) (hL : Shut (tg s chainW = L)) (hP : POk P) (hn : Shut (P.ct = (n : Int))) (hd : Shut (P.dl + 1 = (d : Int))) (hl : Shut (l + 1 = (a : Int))) (hl0 : 0 ≤ l) (hl1 : l ≤ P.ct) (ht : -9223372036854775808 ≤ t ∧ t ≤ 9223372036854775807) (hpat : Shut (pat P t = (J, E))) (hE : E ≠ 0) : Calls Tryd.prog 15 #[.pointer (some ⟨p, 0, none⟩), .int .i64 t, .string x] w fun e w' => e = .returned (.tuple #[.agg (pkc 0 ⟨#[]⟩ ⟨#[]⟩ 0 zk).toArray, .int .i64 E]) ∧ Ms w0 w' (sn p s P l :: R) := by
  go_enter Tryd.func15, Tryd.ntmps15
  refine wp_seq_k (fun K1 hK1 => ?_)
  refine wl_region ?_
  refine wl_give rfl (g_alloc 44 (pkc (0) (⟨#[]⟩) (⟨#[]⟩) (0) (zk)) zeroPk ?_)
  intro w2 t_ b_
  replace hM := hM.new t_ b_
  clear t_ b_
  (try simp only [Act.put, st_a, st_0, st_s])
  refine wl_give rfl (g_assign _ (.int .i64 (0)) rfl ?_)
  (try simp only [Act.put, st_a, st_0, st_s])
  refine wl_nil ?_
  refine hK1 _ _ ?_
  (try clear hK1 K1)
  refine wp_seq_k (fun K3 hK3 => ?_)
  refine wl_region ?_
  refine wl_give rfl (g_move _ (.pointer (some ⟨p, 0, none⟩)) rfl ?_)
  (try simp only [Act.put, st_a, st_0, st_s])
  refine wl_give rfl (g_nil _ ⟨p, 0, none⟩ rfl ?_)
  (try simp only [Act.put, st_a, st_0, st_s])
  refine wl_give rfl (g_fa 66 _ (p) (0) (32) 1 rfl (faSn1 _ _ _) ?_)
  (try simp only [Act.put, st_a, st_0, st_s])
  refine wl_give rfl (g_load 25 _ (p) (32) 4 _ 66 _ rfl (hM.get 1 rfl) Tryd.underlying25 rfl sizeP (by rw [snc_length]; decide) (plc (P)) (sn_plan _ _ _ _ _) ?_)
  (try simp only [Act.put, st_a, st_0, st_s])
  refine wl_give rfl (g_move _ (.int .i64 (t)) rfl ?_)
  (try simp only [Act.put, st_a, st_0, st_s])
  refine wl_give rfl (g_call 32 _ _ [.agg (plc (P)).toArray, .int .i64 (t)] (kf32 _ _) rfl ((pat_any P t w2 ht (J) (E) hpat).mono ?_))
  rintro e w4 ⟨rfl, t_⟩
  refine ⟨_, rfl, ?_⟩
  replace hM := hM.call t_
  clear t_
  (try simp only [Act.put, st_a, st_0, st_s])
  refine wl_give rfl (g_move _ (.tuple #[.int .i64 (J), .int .i64 (E)]) rfl ?_)
  (try simp only [Act.put, st_a, st_0, st_s])
  refine wl_give rfl (g_extract _ #[.int .i64 (J), .int .i64 (E)] 0 (.int .i64 (J)) rfl rfl ?_)
  (try simp only [Act.put, st_a, st_0, st_s])
  refine wl_give rfl (g_extract _ #[.int .i64 (J), .int .i64 (E)] 1 (.int .i64 (E)) rfl rfl ?_)
  (try simp only [Act.put, st_a, st_0, st_s])
  refine wl_give rfl (g_assign _ (.int .i64 (J)) rfl ?_)
  (try simp only [Act.put, st_a, st_0, st_s])
  refine wl_give rfl (g_assign _ (.int .i64 (E)) rfl ?_)
  (try simp only [Act.put, st_a, st_0, st_s])
  refine wl_nil ?_
  refine hK3 _ _ ?_
  (try clear hK3 K3)
  refine wp_seq_k (fun K5 hK5 => ?_)
  refine wp_seq_k (fun K6 hK6 => ?_)
  refine wl_region ?_
  refine wl_give rfl (g_move _ (.int .i64 (E)) rfl ?_)
  (try simp only [Act.put, st_a, st_0, st_s])
  refine wl_give rfl (g_ine 29 _ _ .i64 (E) (0) true rfl rfl (decide_eq_true hE) ?_)
  (try simp only [Act.put, st_a, st_0, st_s])
  refine wl_nil ?_
  refine hK6 _ _ ?_
  (try clear hK6 K6)
  refine wp_cond_true rfl ?_
  refine wp_seq_k (fun K7 hK7 => ?_)
  refine wl_region ?_
  refine wl_give rfl (g_bldPk0 ?_)
  (try simp only [Act.put, st_a, st_0, st_s])
  refine wl_give rfl (g_move _ (.int .i64 (E)) rfl ?_)
  (try simp only [Act.put, st_a, st_0, st_s])
  refine wl_give rfl (g_store_all 44 _ _ (w.heap.size) (pkc (0) (⟨#[]⟩) (⟨#[]⟩) (0) (zk)) _ 44 rfl rfl (hM.get 0 rfl) (szPk _ _ _ _ _) (kk2_len _ _ _ _ _ _ _ _ _ _) (one_pkc _ _ _ _ _) ?_)
  intro w8 t_ b_
  replace hM : Ms w0 w8 (blk (w.heap.size) (pkc (0) (⟨#[]⟩) (⟨#[]⟩) (0) (zk)) 44 :: blk (p) (snc (s) (P) ((kyk s P 0)) (.pointer (some ⟨q, 0, none⟩)) (.slice (some ⟨g, 0, none⟩) (d) (d))) 66 :: wk q n L (a) m :: blk (g) (kcs (ks)) 23 :: pu (Mi n d (a) L ks) :: R) := hM.put 0 rfl t_ b_
  clear t_ b_
  (try simp only [Act.put, st_a, st_0, st_s])
  refine wl_give rfl (g_assign _ (.int .i64 (E)) rfl ?_)
  (try simp only [Act.put, st_a, st_0, st_s])
  refine wl_nil ?_
  refine hK7 _ _ ?_
  (try clear hK7 K7)
  refine wp_ret ?_
  (try simp only [Exit.inBlock, Exit.then])
  exact bodyPost_ret (results_blk_tmp rfl _ (pkc (0) (⟨#[]⟩) (⟨#[]⟩) (0) (zk)) (.int .i64 (E)) _ rfl rfl (hM.get 0 rfl) Tryd.underlying44 rfl (szPk _ _ _ _ _)) rfl ⟨rfl, sn_seal (l := l) (((((hM.erase 0).up 3 rfl).up 3 rfl).up 3 rfl).up 3 rfl) hL hP hn hd hl hl0 hl1⟩
set_option maxHeartbeats 4000000 in
theorem send_late {w0 w : World} {R : List HP} {p q g n d a m : Nat} {s L : Ky} {P : Pl} {ks : List Ky} {l t : Int} (x : ByteArray) (J : Int) (hM : Ms w0 w (blk (p) (snc (s) (P) ((kyk s P 0)) (.pointer (some ⟨q, 0, none⟩)) (.slice (some ⟨g, 0, none⟩) (d) (d))) 66 :: wk q n L (a) m :: blk (g) (kcs (ks)) 23 :: pu (Mi n d (a) L ks) :: R)) (hT : Tabs w0) (hL : Shut (tg s chainW = L)) (hP : POk P) (hn : Shut (P.ct = (n : Int))) (hd : Shut (P.dl + 1 = (d : Int))) (hl : Shut (l + 1 = (a : Int))) (hl0 : 0 ≤ l) (hl1 : l ≤ P.ct) (ht : -9223372036854775808 ≤ t ∧ t ≤ 9223372036854775807) (hpat : Shut (pat P t = (J, 0))) (hJ : J < l) : Calls Tryd.prog 15 #[.pointer (some ⟨p, 0, none⟩), .int .i64 t, .string x] w fun e w' => e = .returned (.tuple #[.agg (pkc 0 ⟨#[]⟩ ⟨#[]⟩ 0 zk).toArray, .int .i64 14]) ∧ Ms w0 w' (sn p s P l :: R) := by
  go_enter Tryd.func15, Tryd.ntmps15
  refine wp_seq_k (fun K1 hK1 => ?_)
  refine wl_region ?_
  refine wl_give rfl (g_alloc 44 (pkc (0) (⟨#[]⟩) (⟨#[]⟩) (0) (zk)) zeroPk ?_)
  intro w2 t_ b_
  replace hM := hM.new t_ b_
  clear t_ b_
  (try simp only [Act.put, st_a, st_0, st_s])
  refine wl_give rfl (g_assign _ (.int .i64 (0)) rfl ?_)
  (try simp only [Act.put, st_a, st_0, st_s])
  refine wl_nil ?_
  refine hK1 _ _ ?_
  (try clear hK1 K1)
  refine wp_seq_k (fun K3 hK3 => ?_)
  refine wl_region ?_
  refine wl_give rfl (g_move _ (.pointer (some ⟨p, 0, none⟩)) rfl ?_)
  (try simp only [Act.put, st_a, st_0, st_s])
  refine wl_give rfl (g_nil _ ⟨p, 0, none⟩ rfl ?_)
  (try simp only [Act.put, st_a, st_0, st_s])
  refine wl_give rfl (g_fa 66 _ (p) (0) (32) 1 rfl (faSn1 _ _ _) ?_)
  (try simp only [Act.put, st_a, st_0, st_s])
  refine wl_give rfl (g_load 25 _ (p) (32) 4 _ 66 _ rfl (hM.get 1 rfl) Tryd.underlying25 rfl sizeP (by rw [snc_length]; decide) (plc (P)) (sn_plan _ _ _ _ _) ?_)
  (try simp only [Act.put, st_a, st_0, st_s])
  refine wl_give rfl (g_move _ (.int .i64 (t)) rfl ?_)
  (try simp only [Act.put, st_a, st_0, st_s])
  refine wl_give rfl (g_call 32 _ _ [.agg (plc (P)).toArray, .int .i64 (t)] (kf32 _ _) rfl ((pat_any P t w2 ht (J) (0) hpat).mono ?_))
  rintro e w4 ⟨rfl, t_⟩
  refine ⟨_, rfl, ?_⟩
  replace hM := hM.call t_
  clear t_
  (try simp only [Act.put, st_a, st_0, st_s])
  refine wl_give rfl (g_move _ (.tuple #[.int .i64 (J), .int .i64 (0)]) rfl ?_)
  (try simp only [Act.put, st_a, st_0, st_s])
  refine wl_give rfl (g_extract _ #[.int .i64 (J), .int .i64 (0)] 0 (.int .i64 (J)) rfl rfl ?_)
  (try simp only [Act.put, st_a, st_0, st_s])
  refine wl_give rfl (g_extract _ #[.int .i64 (J), .int .i64 (0)] 1 (.int .i64 (0)) rfl rfl ?_)
  (try simp only [Act.put, st_a, st_0, st_s])
  refine wl_give rfl (g_assign _ (.int .i64 (J)) rfl ?_)
  (try simp only [Act.put, st_a, st_0, st_s])
  refine wl_give rfl (g_assign _ (.int .i64 (0)) rfl ?_)
  (try simp only [Act.put, st_a, st_0, st_s])
  refine wl_nil ?_
  refine hK3 _ _ ?_
  (try clear hK3 K3)
  refine wp_seq_k (fun K5 hK5 => ?_)
  refine wp_seq_k (fun K6 hK6 => ?_)
  refine wl_region ?_
  refine wl_give rfl (g_move _ (.int .i64 (0)) rfl ?_)
  (try simp only [Act.put, st_a, st_0, st_s])
  refine wl_give rfl (g_ine 29 _ _ .i64 (0) (0) false rfl rfl (by decide) ?_)
  (try simp only [Act.put, st_a, st_0, st_s])
  refine wl_nil ?_
  refine hK6 _ _ ?_
  (try clear hK6 K6)
  refine wp_cond_false rfl ?_
  refine wp_skip ?_
  refine hK5 _ _ ?_
  (try clear hK5 K5)
  refine wp_seq_k (fun K7 hK7 => ?_)
  refine wp_seq_k (fun K8 hK8 => ?_)
  refine wl_region ?_
  refine wl_give rfl (g_move _ (.int .i64 (J)) rfl ?_)
  (try simp only [Act.put, st_a, st_0, st_s])
  refine wl_give rfl (g_move _ (.pointer (some ⟨p, 0, none⟩)) rfl ?_)
  (try simp only [Act.put, st_a, st_0, st_s])
  refine wl_give rfl (g_call 17 _ _ [.pointer (some ⟨p, 0, none⟩)] (kf17 _ _) rfl ((last_op (show Ms w0 w4 (blk (p) (snc (s) (P) ((kyk s P 0)) (.pointer (some ⟨q, 0, none⟩)) (.slice (some ⟨g, 0, none⟩) (d) (d))) 66 :: wk q n L (a) m :: blk (g) (kcs (ks)) 23 :: pu (Mi n d (a) L ks) :: blk (w.heap.size) (pkc (0) (⟨#[]⟩) (⟨#[]⟩) (0) (zk)) 44 :: R) from ((((hM.up 4 rfl).up 4 rfl).up 4 rfl).up 4 rfl)) l hl (by have := hl.out; omega) (by have := hl.out; omega)).mono ?_))
  rintro e w9 ⟨rfl, t_⟩
  refine ⟨_, rfl, ?_⟩
  replace hM := hM.call t_
  clear t_
  (try simp only [Act.put, st_a, st_0, st_s])
  refine wl_give rfl (g_ilss 3 _ _ .i64 (J) (l) true rfl rfl (decide_eq_true hJ) ?_)
  (try simp only [Act.put, st_a, st_0, st_s])
  refine wl_nil ?_
  refine hK8 _ _ ?_
  (try clear hK8 K8)
  refine wp_cond_true rfl ?_
  refine wp_seq_k (fun K10 hK10 => ?_)
  refine wl_region ?_
  refine wl_give rfl (g_bldPk0 ?_)
  (try simp only [Act.put, st_a, st_0, st_s])
  refine wl_give rfl (g_store_all 44 _ _ (w.heap.size) (pkc (0) (⟨#[]⟩) (⟨#[]⟩) (0) (zk)) _ 44 rfl rfl (hM.get 0 rfl) (szPk _ _ _ _ _) (kk2_len _ _ _ _ _ _ _ _ _ _) (one_pkc _ _ _ _ _) ?_)
  intro w11 t_ b_
  replace hM : Ms w0 w11 (blk (w.heap.size) (pkc (0) (⟨#[]⟩) (⟨#[]⟩) (0) (zk)) 44 :: blk (p) (snc (s) (P) ((kyk s P 0)) (.pointer (some ⟨q, 0, none⟩)) (.slice (some ⟨g, 0, none⟩) (d) (d))) 66 :: wk q n L (a) m :: blk (g) (kcs (ks)) 23 :: pu (Mi n d (a) L ks) :: R) := hM.put 0 rfl t_ b_
  clear t_ b_
  (try simp only [Act.put, st_a, st_0, st_s])
  refine wl_give rfl (g_assign _ (.int .i64 (14)) rfl ?_)
  (try simp only [Act.put, st_a, st_0, st_s])
  refine wl_nil ?_
  refine hK10 _ _ ?_
  (try clear hK10 K10)
  refine wp_ret ?_
  (try simp only [Exit.inBlock, Exit.then])
  exact bodyPost_ret (results_blk_tmp rfl _ (pkc (0) (⟨#[]⟩) (⟨#[]⟩) (0) (zk)) (.int .i64 (14)) _ rfl rfl (hM.get 0 rfl) Tryd.underlying44 rfl (szPk _ _ _ _ _)) rfl ⟨rfl, sn_seal (l := l) (((((hM.erase 0).up 3 rfl).up 3 rfl).up 3 rfl).up 3 rfl) hL hP hn hd hl hl0 hl1⟩
set_option maxHeartbeats 4000000 in
theorem send_size {w0 w : World} {R : List HP} {p q g n d a m : Nat} {s L : Ky} {P : Pl} {ks : List Ky} {l t : Int} (x : ByteArray) (J : Int) (hM : Ms w0 w (blk (p) (snc (s) (P) ((kyk s P 0)) (.pointer (some ⟨q, 0, none⟩)) (.slice (some ⟨g, 0, none⟩) (d) (d))) 66 :: wk q n L (a) m :: blk (g) (kcs (ks)) 23 :: pu (Mi n d (a) L ks) :: R)) (hT : Tabs w0) (hL : Shut (tg s chainW = L)) (hP : POk P) (hn : Shut (P.ct = (n : Int))) (hd : Shut (P.dl + 1 = (d : Int))) (hl : Shut (l + 1 = (a : Int))) (hl0 : 0 ≤ l) (hl1 : l ≤ P.ct) (ht : -9223372036854775808 ≤ t ∧ t ≤ 9223372036854775807) (hpat : Shut (pat P t = (J, 0))) (hJ : ¬ J < l) (hx : 1000 < ((x.size : Nat) : Int)) : Calls Tryd.prog 15 #[.pointer (some ⟨p, 0, none⟩), .int .i64 t, .string x] w fun e w' => e = .returned (.tuple #[.agg (pkc 0 ⟨#[]⟩ ⟨#[]⟩ 0 zk).toArray, .int .i64 5]) ∧ Ms w0 w' (sn p s P l :: R) := by
  go_enter Tryd.func15, Tryd.ntmps15
  refine wp_seq_k (fun K1 hK1 => ?_)
  refine wl_region ?_
  refine wl_give rfl (g_alloc 44 (pkc (0) (⟨#[]⟩) (⟨#[]⟩) (0) (zk)) zeroPk ?_)
  intro w2 t_ b_
  replace hM := hM.new t_ b_
  clear t_ b_
  (try simp only [Act.put, st_a, st_0, st_s])
  refine wl_give rfl (g_assign _ (.int .i64 (0)) rfl ?_)
  (try simp only [Act.put, st_a, st_0, st_s])
  refine wl_nil ?_
  refine hK1 _ _ ?_
  (try clear hK1 K1)
  refine wp_seq_k (fun K3 hK3 => ?_)
  refine wl_region ?_
  refine wl_give rfl (g_move _ (.pointer (some ⟨p, 0, none⟩)) rfl ?_)
  (try simp only [Act.put, st_a, st_0, st_s])
  refine wl_give rfl (g_nil _ ⟨p, 0, none⟩ rfl ?_)
  (try simp only [Act.put, st_a, st_0, st_s])
  refine wl_give rfl (g_fa 66 _ (p) (0) (32) 1 rfl (faSn1 _ _ _) ?_)
  (try simp only [Act.put, st_a, st_0, st_s])
  refine wl_give rfl (g_load 25 _ (p) (32) 4 _ 66 _ rfl (hM.get 1 rfl) Tryd.underlying25 rfl sizeP (by rw [snc_length]; decide) (plc (P)) (sn_plan _ _ _ _ _) ?_)
  (try simp only [Act.put, st_a, st_0, st_s])
  refine wl_give rfl (g_move _ (.int .i64 (t)) rfl ?_)
  (try simp only [Act.put, st_a, st_0, st_s])
  refine wl_give rfl (g_call 32 _ _ [.agg (plc (P)).toArray, .int .i64 (t)] (kf32 _ _) rfl ((pat_any P t w2 ht (J) (0) hpat).mono ?_))
  rintro e w4 ⟨rfl, t_⟩
  refine ⟨_, rfl, ?_⟩
  replace hM := hM.call t_
  clear t_
  (try simp only [Act.put, st_a, st_0, st_s])
  refine wl_give rfl (g_move _ (.tuple #[.int .i64 (J), .int .i64 (0)]) rfl ?_)
  (try simp only [Act.put, st_a, st_0, st_s])
  refine wl_give rfl (g_extract _ #[.int .i64 (J), .int .i64 (0)] 0 (.int .i64 (J)) rfl rfl ?_)
  (try simp only [Act.put, st_a, st_0, st_s])
  refine wl_give rfl (g_extract _ #[.int .i64 (J), .int .i64 (0)] 1 (.int .i64 (0)) rfl rfl ?_)
  (try simp only [Act.put, st_a, st_0, st_s])
  refine wl_give rfl (g_assign _ (.int .i64 (J)) rfl ?_)
  (try simp only [Act.put, st_a, st_0, st_s])
  refine wl_give rfl (g_assign _ (.int .i64 (0)) rfl ?_)
  (try simp only [Act.put, st_a, st_0, st_s])
  refine wl_nil ?_
  refine hK3 _ _ ?_
  (try clear hK3 K3)
  refine wp_seq_k (fun K5 hK5 => ?_)
  refine wp_seq_k (fun K6 hK6 => ?_)
  refine wl_region ?_
  refine wl_give rfl (g_move _ (.int .i64 (0)) rfl ?_)
  (try simp only [Act.put, st_a, st_0, st_s])
  refine wl_give rfl (g_ine 29 _ _ .i64 (0) (0) false rfl rfl (by decide) ?_)
  (try simp only [Act.put, st_a, st_0, st_s])
  refine wl_nil ?_
  refine hK6 _ _ ?_
  (try clear hK6 K6)
  refine wp_cond_false rfl ?_
  refine wp_skip ?_
  refine hK5 _ _ ?_
  (try clear hK5 K5)
  refine wp_seq_k (fun K7 hK7 => ?_)
  refine wp_seq_k (fun K8 hK8 => ?_)
  refine wl_region ?_
  refine wl_give rfl (g_move _ (.int .i64 (J)) rfl ?_)
  (try simp only [Act.put, st_a, st_0, st_s])
  refine wl_give rfl (g_move _ (.pointer (some ⟨p, 0, none⟩)) rfl ?_)
  (try simp only [Act.put, st_a, st_0, st_s])
  refine wl_give rfl (g_call 17 _ _ [.pointer (some ⟨p, 0, none⟩)] (kf17 _ _) rfl ((last_op (show Ms w0 w4 (blk (p) (snc (s) (P) ((kyk s P 0)) (.pointer (some ⟨q, 0, none⟩)) (.slice (some ⟨g, 0, none⟩) (d) (d))) 66 :: wk q n L (a) m :: blk (g) (kcs (ks)) 23 :: pu (Mi n d (a) L ks) :: blk (w.heap.size) (pkc (0) (⟨#[]⟩) (⟨#[]⟩) (0) (zk)) 44 :: R) from ((((hM.up 4 rfl).up 4 rfl).up 4 rfl).up 4 rfl)) l hl (by have := hl.out; omega) (by have := hl.out; omega)).mono ?_))
  rintro e w9 ⟨rfl, t_⟩
  refine ⟨_, rfl, ?_⟩
  replace hM := hM.call t_
  clear t_
  (try simp only [Act.put, st_a, st_0, st_s])
  refine wl_give rfl (g_ilss 3 _ _ .i64 (J) (l) false rfl rfl (decide_eq_false hJ) ?_)
  (try simp only [Act.put, st_a, st_0, st_s])
  refine wl_nil ?_
  refine hK8 _ _ ?_
  (try clear hK8 K8)
  refine wp_cond_false rfl ?_
  refine wp_skip ?_
  refine hK7 _ _ ?_
  (try clear hK7 K7)
  refine wp_seq_k (fun K10 hK10 => ?_)
  refine wp_seq_k (fun K11 hK11 => ?_)
  refine wl_region ?_
  refine wl_give rfl (g_move _ (.string (x)) rfl ?_)
  (try simp only [Act.put, st_a, st_0, st_s])
  refine wl_give rfl (g_lenT _ (x) ((((x).size : Nat) : Int)) rfl (rfl) ?_)
  (try simp only [Act.put, st_a, st_0, st_s])
  refine wl_give rfl (g_igtr 3 _ _ .i64 ((((x).size : Nat) : Int)) (1000) true rfl rfl (decide_eq_true hx) ?_)
  (try simp only [Act.put, st_a, st_0, st_s])
  refine wl_nil ?_
  refine hK11 _ _ ?_
  (try clear hK11 K11)
  refine wp_cond_true rfl ?_
  refine wp_seq_k (fun K12 hK12 => ?_)
  refine wl_region ?_
  refine wl_give rfl (g_bldPk0 ?_)
  (try simp only [Act.put, st_a, st_0, st_s])
  refine wl_give rfl (g_store_all 44 _ _ (w.heap.size) (pkc (0) (⟨#[]⟩) (⟨#[]⟩) (0) (zk)) _ 44 rfl rfl (hM.get 0 rfl) (szPk _ _ _ _ _) (kk2_len _ _ _ _ _ _ _ _ _ _) (one_pkc _ _ _ _ _) ?_)
  intro w13 t_ b_
  replace hM : Ms w0 w13 (blk (w.heap.size) (pkc (0) (⟨#[]⟩) (⟨#[]⟩) (0) (zk)) 44 :: blk (p) (snc (s) (P) ((kyk s P 0)) (.pointer (some ⟨q, 0, none⟩)) (.slice (some ⟨g, 0, none⟩) (d) (d))) 66 :: wk q n L (a) m :: blk (g) (kcs (ks)) 23 :: pu (Mi n d (a) L ks) :: R) := hM.put 0 rfl t_ b_
  clear t_ b_
  (try simp only [Act.put, st_a, st_0, st_s])
  refine wl_give rfl (g_assign _ (.int .i64 (5)) rfl ?_)
  (try simp only [Act.put, st_a, st_0, st_s])
  refine wl_nil ?_
  refine hK12 _ _ ?_
  (try clear hK12 K12)
  refine wp_ret ?_
  (try simp only [Exit.inBlock, Exit.then])
  exact bodyPost_ret (results_blk_tmp rfl _ (pkc (0) (⟨#[]⟩) (⟨#[]⟩) (0) (zk)) (.int .i64 (5)) _ rfl rfl (hM.get 0 rfl) Tryd.underlying44 rfl (szPk _ _ _ _ _)) rfl ⟨rfl, sn_seal (l := l) (((((hM.erase 0).up 3 rfl).up 3 rfl).up 3 rfl).up 3 rfl) hL hP hn hd hl hl0 hl1⟩
set_option maxHeartbeats 4000000 in
theorem send_none {w0 w : World} {R : List HP} {p q g n d a m : Nat} {s L : Ky} {P : Pl} {ks : List Ky} {l t : Int} (x : ByteArray) (i : Nat) (hi : i ≤ n) (K1 : Ky) (hK1 : Shut (wl (n - i) L = K1)) (G : ByteArray) (hG : Shut (tgs K1 ((i : Nat) : Int) x = G)) (hTe : Shut (pte P ((i : Nat) : Int) = 0)) (hM : Ms w0 w (blk (p) (snc (s) (P) ((kyk s P 0)) (.pointer (some ⟨q, 0, none⟩)) (.slice (some ⟨g, 0, none⟩) (d) (d))) 66 :: wk q n L (a) m :: blk (g) (kcs (ks)) 23 :: pu (Mi n d (a) L ks) :: R)) (hT : Tabs w0) (hL : Shut (tg s chainW = L)) (hP : POk P) (hn : Shut (P.ct = (n : Int))) (hd : Shut (P.dl + 1 = (d : Int))) (hl : Shut (l + 1 = (a : Int))) (hl0 : 0 ≤ l) (hl1 : l ≤ P.ct) (ht : -9223372036854775808 ≤ t ∧ t ≤ 9223372036854775807) (hpat : Shut (pat P t = (((i : Nat) : Int), 0))) (hJ : ¬ ((i : Nat) : Int) < l) (hx : ¬ 1000 < ((x.size : Nat) : Int)) : Calls Tryd.prog 15 #[.pointer (some ⟨p, 0, none⟩), .int .i64 t, .string x] w fun e w' => e = .returned (.tuple #[.agg (pkc ((i : Nat) : Int) x G 0 zk).toArray, .int .i64 0]) ∧ Ms w0 w' (sn p s P ((i : Nat) : Int) :: R) := by
  go_enter Tryd.func15, Tryd.ntmps15
  refine wp_seq_k (fun K1 hK1 => ?_)
  refine wl_region ?_
  refine wl_give rfl (g_alloc 44 (pkc (0) (⟨#[]⟩) (⟨#[]⟩) (0) (zk)) zeroPk ?_)
  intro w2 t_ b_
  replace hM := hM.new t_ b_
  clear t_ b_
  (try simp only [Act.put, st_a, st_0, st_s])
  refine wl_give rfl (g_assign _ (.int .i64 (0)) rfl ?_)
  (try simp only [Act.put, st_a, st_0, st_s])
  refine wl_nil ?_
  refine hK1 _ _ ?_
  (try clear hK1 K1)
  refine wp_seq_k (fun K3 hK3 => ?_)
  refine wl_region ?_
  refine wl_give rfl (g_move _ (.pointer (some ⟨p, 0, none⟩)) rfl ?_)
  (try simp only [Act.put, st_a, st_0, st_s])
  refine wl_give rfl (g_nil _ ⟨p, 0, none⟩ rfl ?_)
  (try simp only [Act.put, st_a, st_0, st_s])
  refine wl_give rfl (g_fa 66 _ (p) (0) (32) 1 rfl (faSn1 _ _ _) ?_)
  (try simp only [Act.put, st_a, st_0, st_s])
  refine wl_give rfl (g_load 25 _ (p) (32) 4 _ 66 _ rfl (hM.get 1 rfl) Tryd.underlying25 rfl sizeP (by rw [snc_length]; decide) (plc (P)) (sn_plan _ _ _ _ _) ?_)
  (try simp only [Act.put, st_a, st_0, st_s])
  refine wl_give rfl (g_move _ (.int .i64 (t)) rfl ?_)
  (try simp only [Act.put, st_a, st_0, st_s])
  refine wl_give rfl (g_call 32 _ _ [.agg (plc (P)).toArray, .int .i64 (t)] (kf32 _ _) rfl ((pat_any P t w2 ht (((i : Nat) : Int)) (0) hpat).mono ?_))
  rintro e w4 ⟨rfl, t_⟩
  refine ⟨_, rfl, ?_⟩
  replace hM := hM.call t_
  clear t_
  (try simp only [Act.put, st_a, st_0, st_s])
  refine wl_give rfl (g_move _ (.tuple #[.int .i64 (((i : Nat) : Int)), .int .i64 (0)]) rfl ?_)
  (try simp only [Act.put, st_a, st_0, st_s])
  refine wl_give rfl (g_extract _ #[.int .i64 (((i : Nat) : Int)), .int .i64 (0)] 0 (.int .i64 (((i : Nat) : Int))) rfl rfl ?_)
  (try simp only [Act.put, st_a, st_0, st_s])
  refine wl_give rfl (g_extract _ #[.int .i64 (((i : Nat) : Int)), .int .i64 (0)] 1 (.int .i64 (0)) rfl rfl ?_)
  (try simp only [Act.put, st_a, st_0, st_s])
  refine wl_give rfl (g_assign _ (.int .i64 (((i : Nat) : Int))) rfl ?_)
  (try simp only [Act.put, st_a, st_0, st_s])
  refine wl_give rfl (g_assign _ (.int .i64 (0)) rfl ?_)
  (try simp only [Act.put, st_a, st_0, st_s])
  refine wl_nil ?_
  refine hK3 _ _ ?_
  (try clear hK3 K3)
  refine wp_seq_k (fun K5 hK5 => ?_)
  refine wp_seq_k (fun K6 hK6 => ?_)
  refine wl_region ?_
  refine wl_give rfl (g_move _ (.int .i64 (0)) rfl ?_)
  (try simp only [Act.put, st_a, st_0, st_s])
  refine wl_give rfl (g_ine 29 _ _ .i64 (0) (0) false rfl rfl (by decide) ?_)
  (try simp only [Act.put, st_a, st_0, st_s])
  refine wl_nil ?_
  refine hK6 _ _ ?_
  (try clear hK6 K6)
  refine wp_cond_false rfl ?_
  refine wp_skip ?_
  refine hK5 _ _ ?_
  (try clear hK5 K5)
  refine wp_seq_k (fun K7 hK7 => ?_)
  refine wp_seq_k (fun K8 hK8 => ?_)
  refine wl_region ?_
  refine wl_give rfl (g_move _ (.int .i64 (((i : Nat) : Int))) rfl ?_)
  (try simp only [Act.put, st_a, st_0, st_s])
  refine wl_give rfl (g_move _ (.pointer (some ⟨p, 0, none⟩)) rfl ?_)
  (try simp only [Act.put, st_a, st_0, st_s])
  refine wl_give rfl (g_call 17 _ _ [.pointer (some ⟨p, 0, none⟩)] (kf17 _ _) rfl ((last_op (show Ms w0 w4 (blk (p) (snc (s) (P) ((kyk s P 0)) (.pointer (some ⟨q, 0, none⟩)) (.slice (some ⟨g, 0, none⟩) (d) (d))) 66 :: wk q n L (a) m :: blk (g) (kcs (ks)) 23 :: pu (Mi n d (a) L ks) :: blk (w.heap.size) (pkc (0) (⟨#[]⟩) (⟨#[]⟩) (0) (zk)) 44 :: R) from ((((hM.up 4 rfl).up 4 rfl).up 4 rfl).up 4 rfl)) l hl (by have := hl.out; omega) (by have := hl.out; omega)).mono ?_))
  rintro e w9 ⟨rfl, t_⟩
  refine ⟨_, rfl, ?_⟩
  replace hM := hM.call t_
  clear t_
  (try simp only [Act.put, st_a, st_0, st_s])
  refine wl_give rfl (g_ilss 3 _ _ .i64 (((i : Nat) : Int)) (l) false rfl rfl (decide_eq_false hJ) ?_)
  (try simp only [Act.put, st_a, st_0, st_s])
  refine wl_nil ?_
  refine hK8 _ _ ?_
  (try clear hK8 K8)
  refine wp_cond_false rfl ?_
  refine wp_skip ?_
  refine hK7 _ _ ?_
  (try clear hK7 K7)
  refine wp_seq_k (fun K10 hK10 => ?_)
  refine wp_seq_k (fun K11 hK11 => ?_)
  refine wl_region ?_
  refine wl_give rfl (g_move _ (.string (x)) rfl ?_)
  (try simp only [Act.put, st_a, st_0, st_s])
  refine wl_give rfl (g_lenT _ (x) ((((x).size : Nat) : Int)) rfl (rfl) ?_)
  (try simp only [Act.put, st_a, st_0, st_s])
  refine wl_give rfl (g_igtr 3 _ _ .i64 ((((x).size : Nat) : Int)) (1000) false rfl rfl (decide_eq_false hx) ?_)
  (try simp only [Act.put, st_a, st_0, st_s])
  refine wl_nil ?_
  refine hK11 _ _ ?_
  (try clear hK11 K11)
  refine wp_cond_false rfl ?_
  refine wp_skip ?_
  refine hK10 _ _ ?_
  (try clear hK10 K10)
  refine wp_seq_k (fun K12 hK12 => ?_)
  refine wl_region ?_
  refine wl_give rfl (g_move _ (.pointer (some ⟨p, 0, none⟩)) rfl ?_)
  (try simp only [Act.put, st_a, st_0, st_s])
  refine wl_give rfl (g_move _ (.int .i64 (((i : Nat) : Int))) rfl ?_)
  (try simp only [Act.put, st_a, st_0, st_s])
  refine wl_give rfl (g_call 26 _ _ [.pointer (some ⟨p, 0, none⟩), .int .i64 (((i : Nat) : Int))] (kf26 _ _) rfl ((mind_op (show Ms w0 w9 (blk (p) (snc (s) (P) ((kyk s P 0)) (.pointer (some ⟨q, 0, none⟩)) (.slice (some ⟨g, 0, none⟩) (d) (d))) 66 :: wk q n L (a) m :: blk (g) (kcs (ks)) 23 :: pu (Mi n d (a) L ks) :: blk (w.heap.size) (pkc (0) (⟨#[]⟩) (⟨#[]⟩) (0) (zk)) 44 :: R) from ((((hM.up 4 rfl).up 4 rfl).up 4 rfl).up 4 rfl)) ((i : Nat) : Int) i rfl hL hT hi (by have := hn.out; omega) (by have := hl.out; omega) (by have := hd.out; omega) (by have := hd.out; omega)).mono ?_))
  rintro e w13 ⟨m14, ks15, rfl, h_⟩
  refine ⟨_, rfl, ?_⟩
  replace hM : Ms w0 w13 (blk (p) (snc (s) (P) ((kyk s P 0)) (.pointer (some ⟨q, 0, none⟩)) (.slice (some ⟨g, 0, none⟩) (d) (d))) 66 :: wk q n L (i + 1) m14 :: blk (g) (kcs (ks15)) 23 :: pu (Mi n d (i + 1) L ks15) :: blk (w.heap.size) (pkc (0) (⟨#[]⟩) (⟨#[]⟩) (0) (zk)) 44 :: R) := h_
  clear h_
  (try simp only [Act.put, st_a, st_0, st_s])
  refine wl_nil ?_
  refine hK12 _ _ ?_
  (try clear hK12 K12)
  refine wp_seq_k (fun K16 hK16 => ?_)
  refine wl_region ?_
  refine wl_give rfl (g_move _ (.int .i64 (((i : Nat) : Int))) rfl ?_)
  (try simp only [Act.put, st_a, st_0, st_s])
  refine wl_give rfl (g_move _ (.string (x)) rfl ?_)
  (try simp only [Act.put, st_a, st_0, st_s])
  refine wl_give rfl (g_move _ (.pointer (some ⟨p, 0, none⟩)) rfl ?_)
  (try simp only [Act.put, st_a, st_0, st_s])
  refine wl_give rfl (g_move _ (.int .i64 (((i : Nat) : Int))) rfl ?_)
  (try simp only [Act.put, st_a, st_0, st_s])
  refine wl_give rfl (g_call 27 _ _ [.pointer (some ⟨p, 0, none⟩), .int .i64 (((i : Nat) : Int))] (kf27 _ _) rfl ((key_op (show Ms w0 w13 (blk (p) (snc (s) (P) ((kyk s P 0)) (.pointer (some ⟨q, 0, none⟩)) (.slice (some ⟨g, 0, none⟩) (d) (d))) 66 :: wk q n L (i + 1) m14 :: blk (g) (kcs (ks15)) 23 :: pu (Mi n d (i + 1) L ks15) :: blk (w.heap.size) (pkc (0) (⟨#[]⟩) (⟨#[]⟩) (0) (zk)) 44 :: R) from ((((hM.up 3 rfl).up 3 rfl).up 3 rfl).up 3 rfl)) ((i : Nat) : Int) i rfl hL (by omega) (by have := hd.out; omega) (by have := hd.out; omega) K1 hK1).mono ?_))
  rintro e w17 ⟨rfl, t_⟩
  refine ⟨_, rfl, ?_⟩
  replace hM := hM.call t_
  clear t_
  (try simp only [Act.put, st_a, st_0, st_s])
  refine wl_give rfl (g_move _ (.int .i64 (((i : Nat) : Int))) rfl ?_)
  (try simp only [Act.put, st_a, st_0, st_s])
  refine wl_give rfl (g_move _ (.string (x)) rfl ?_)
  (try simp only [Act.put, st_a, st_0, st_s])
  refine wl_give rfl (g_call 21 _ _ [.agg (kc (K1)).toArray, .int .i64 (((i : Nat) : Int)), .string (x)] (kf21 _ _) rfl ((tagS_any K1 ((i : Nat) : Int) x w17 (hM.tabs hT) (by omega) G hG).mono ?_))
  rintro e w18 ⟨rfl, t_⟩
  refine ⟨_, rfl, ?_⟩
  replace hM := hM.call t_
  clear t_
  (try simp only [Act.put, st_a, st_0, st_s])
  refine wl_give rfl (g_bldPk3 _ _ _ (((i : Nat) : Int)) (x) (G) rfl rfl rfl ?_)
  (try simp only [Act.put, st_a, st_0, st_s])
  refine wl_give rfl (g_alloc 44 (pkc (0) (⟨#[]⟩) (⟨#[]⟩) (0) (zk)) zeroPk ?_)
  intro w19 t_ b_
  replace hM := hM.new t_ b_
  clear t_ b_
  (try simp only [Act.put, st_a, st_0, st_s])
  refine wl_give rfl (g_store_all 44 _ _ (w18.heap.size) (pkc (((i : Nat) : Int)) (x) (G) (0) (zk)) _ 44 rfl rfl (hM.get 0 rfl) (szPk _ _ _ _ _) (kk2_len _ _ _ _ _ _ _ _ _ _) (one_pkc _ _ _ _ _) ?_)
  intro w20 t_ b_
  replace hM : Ms w0 w20 (blk (w18.heap.size) (pkc (((i : Nat) : Int)) (x) (G) (0) (zk)) 44 :: blk (p) (snc (s) (P) ((kyk s P 0)) (.pointer (some ⟨q, 0, none⟩)) (.slice (some ⟨g, 0, none⟩) (d) (d))) 66 :: wk q n L (i + 1) m14 :: blk (g) (kcs (ks15)) 23 :: pu (Mi n d (i + 1) L ks15) :: blk (w.heap.size) (pkc (0) (⟨#[]⟩) (⟨#[]⟩) (0) (zk)) 44 :: R) := hM.put 0 rfl t_ b_
  clear t_ b_
  (try simp only [Act.put, st_a, st_0, st_s])
  refine wl_nil ?_
  refine hK16 _ _ ?_
  (try clear hK16 K16)
  refine wp_seq_k (fun K21 hK21 => ?_)
  refine wp_seq_k (fun K22 hK22 => ?_)
  refine wl_region ?_
  refine wl_give rfl (g_move _ (.pointer (some ⟨p, 0, none⟩)) rfl ?_)
  (try simp only [Act.put, st_a, st_0, st_s])
  refine wl_give rfl (g_nil _ ⟨p, 0, none⟩ rfl ?_)
  (try simp only [Act.put, st_a, st_0, st_s])
  refine wl_give rfl (g_fa 66 _ (p) (0) (32) 1 rfl (faSn1 _ _ _) ?_)
  (try simp only [Act.put, st_a, st_0, st_s])
  refine wl_give rfl (g_load 25 _ (p) (32) 4 _ 66 _ rfl (hM.get 1 rfl) Tryd.underlying25 rfl sizeP (by rw [snc_length]; decide) (plc (P)) (sn_plan _ _ _ _ _) ?_)
  (try simp only [Act.put, st_a, st_0, st_s])
  refine wl_give rfl (g_move _ (.int .i64 (((i : Nat) : Int))) rfl ?_)
  (try simp only [Act.put, st_a, st_0, st_s])
  refine wl_give rfl (g_call 33 _ _ [.agg (plc (P)).toArray, .int .i64 (((i : Nat) : Int))] (kf33 _ _) rfl ((ptells_any P ((i : Nat) : Int) w20 0 hTe).mono ?_))
  rintro e w23 ⟨rfl, t_⟩
  refine ⟨_, rfl, ?_⟩
  replace hM := hM.call t_
  clear t_
  (try simp only [Act.put, st_a, st_0, st_s])
  refine wl_give rfl (g_assign _ (.int .i64 (0)) rfl ?_)
  (try simp only [Act.put, st_a, st_0, st_s])
  refine wl_nil ?_
  refine hK22 _ _ ?_
  (try clear hK22 K22)
  refine wp_seq_k (fun K24 hK24 => ?_)
  refine wl_region ?_
  refine wl_give rfl (g_move _ (.int .i64 (0)) rfl ?_)
  (try simp only [Act.put, st_a, st_0, st_s])
  refine wl_give rfl (g_igtr 3 _ _ .i64 (0) (0) false rfl rfl (decide_eq_false (by decide)) ?_)
  (try simp only [Act.put, st_a, st_0, st_s])
  refine wl_nil ?_
  refine hK24 _ _ ?_
  (try clear hK24 K24)
  refine wp_cond_false rfl ?_
  refine wp_skip ?_
  refine hK21 _ _ ?_
  (try clear hK21 K21)
  refine wp_seq_k (fun K25 hK25 => ?_)
  refine wl_region ?_
  refine wl_give rfl (g_load_all 44 _ (w18.heap.size) (pkc (((i : Nat) : Int)) (x) (G) (0) (zk)) 44 _ rfl (hM.get 0 rfl) Tryd.underlying44 rfl (szPk _ _ _ _ _) ?_)
  (try simp only [Act.put, st_a, st_0, st_s])
  refine wl_give rfl (g_store_all 44 _ _ (w.heap.size) (pkc (((i : Nat) : Int)) (x) (G) (0) (zk)) _ 44 rfl rfl (hM.get 5 rfl) (szPk _ _ _ _ _) (kk2_len _ _ _ _ _ _ _ _ _ _) (one_pkc _ _ _ _ _) ?_)
  intro w26 t_ b_
  replace hM : Ms w0 w26 (blk (w18.heap.size) (pkc (((i : Nat) : Int)) (x) (G) (0) (zk)) 44 :: blk (p) (snc (s) (P) ((kyk s P 0)) (.pointer (some ⟨q, 0, none⟩)) (.slice (some ⟨g, 0, none⟩) (d) (d))) 66 :: wk q n L (i + 1) m14 :: blk (g) (kcs (ks15)) 23 :: pu (Mi n d (i + 1) L ks15) :: blk (w.heap.size) (pkc (((i : Nat) : Int)) (x) (G) (0) (zk)) 44 :: R) := hM.put 5 rfl t_ b_
  clear t_ b_
  (try simp only [Act.put, st_a, st_0, st_s])
  refine wl_give rfl (g_assign _ (.int .i64 (0)) rfl ?_)
  (try simp only [Act.put, st_a, st_0, st_s])
  refine wl_nil ?_
  refine hK25 _ _ ?_
  (try clear hK25 K25)
  refine wp_ret ?_
  (try simp only [Exit.inBlock, Exit.then])
  exact bodyPost_ret (results_blk_tmp rfl _ (pkc (((i : Nat) : Int)) (x) (G) (0) (zk)) (.int .i64 (0)) _ rfl rfl (hM.get 5 rfl) Tryd.underlying44 rfl (szPk _ _ _ _ _)) rfl ⟨rfl, sn_seal (l := ((i : Nat) : Int)) ((((((hM.erase 0).erase 4).up 3 rfl).up 3 rfl).up 3 rfl).up 3 rfl) hL hP hn hd ⟨by omega⟩ (by omega) (by have := hn.out; omega)⟩
set_option maxHeartbeats 4000000 in
theorem send_told {w0 w : World} {R : List HP} {p q g n d a m : Nat} {s L : Ky} {P : Pl} {ks : List Ky} {l t : Int} (x : ByteArray) (i : Nat) (hi : i ≤ n) (K1 : Ky) (hK1 : Shut (wl (n - i) L = K1)) (G : ByteArray) (hG : Shut (tgs K1 ((i : Nat) : Int) x = G)) (T : Int) (hTe : Shut (pte P ((i : Nat) : Int) = T)) (hM : Ms w0 w (blk (p) (snc (s) (P) ((kyk s P 0)) (.pointer (some ⟨q, 0, none⟩)) (.slice (some ⟨g, 0, none⟩) (d) (d))) 66 :: wk q n L (a) m :: blk (g) (kcs (ks)) 23 :: pu (Mi n d (a) L ks) :: R)) (hT : Tabs w0) (hL : Shut (tg s chainW = L)) (hP : POk P) (hn : Shut (P.ct = (n : Int))) (hd : Shut (P.dl + 1 = (d : Int))) (hl : Shut (l + 1 = (a : Int))) (hl0 : 0 ≤ l) (hl1 : l ≤ P.ct) (ht : -9223372036854775808 ≤ t ∧ t ≤ 9223372036854775807) (hpat : Shut (pat P t = (((i : Nat) : Int), 0))) (hJ : ¬ ((i : Nat) : Int) < l) (hx : ¬ 1000 < ((x.size : Nat) : Int)) (hT0 : 0 < T) (j : Nat) (hTj : T = (j : Int)) (hji : j ≤ i) (hjd : (i : Int) - P.dl ≤ j) (K2 : Ky) (hK2 : Shut (wl (n - j) L = K2)) : Calls Tryd.prog 15 #[.pointer (some ⟨p, 0, none⟩), .int .i64 t, .string x] w fun e w' => e = .returned (.tuple #[.agg (pkc ((i : Nat) : Int) x G T K2).toArray, .int .i64 0]) ∧ Ms w0 w' (sn p s P ((i : Nat) : Int) :: R) := by
  go_enter Tryd.func15, Tryd.ntmps15
  refine wp_seq_k (fun K1 hK1 => ?_)
  refine wl_region ?_
  refine wl_give rfl (g_alloc 44 (pkc (0) (⟨#[]⟩) (⟨#[]⟩) (0) (zk)) zeroPk ?_)
  intro w2 t_ b_
  replace hM := hM.new t_ b_
  clear t_ b_
  (try simp only [Act.put, st_a, st_0, st_s])
  refine wl_give rfl (g_assign _ (.int .i64 (0)) rfl ?_)
  (try simp only [Act.put, st_a, st_0, st_s])
  refine wl_nil ?_
  refine hK1 _ _ ?_
  (try clear hK1 K1)
  refine wp_seq_k (fun K3 hK3 => ?_)
  refine wl_region ?_
  refine wl_give rfl (g_move _ (.pointer (some ⟨p, 0, none⟩)) rfl ?_)
  (try simp only [Act.put, st_a, st_0, st_s])
  refine wl_give rfl (g_nil _ ⟨p, 0, none⟩ rfl ?_)
  (try simp only [Act.put, st_a, st_0, st_s])
  refine wl_give rfl (g_fa 66 _ (p) (0) (32) 1 rfl (faSn1 _ _ _) ?_)
  (try simp only [Act.put, st_a, st_0, st_s])
  refine wl_give rfl (g_load 25 _ (p) (32) 4 _ 66 _ rfl (hM.get 1 rfl) Tryd.underlying25 rfl sizeP (by rw [snc_length]; decide) (plc (P)) (sn_plan _ _ _ _ _) ?_)
  (try simp only [Act.put, st_a, st_0, st_s])
  refine wl_give rfl (g_move _ (.int .i64 (t)) rfl ?_)
  (try simp only [Act.put, st_a, st_0, st_s])
  refine wl_give rfl (g_call 32 _ _ [.agg (plc (P)).toArray, .int .i64 (t)] (kf32 _ _) rfl ((pat_any P t w2 ht (((i : Nat) : Int)) (0) hpat).mono ?_))
  rintro e w4 ⟨rfl, t_⟩
  refine ⟨_, rfl, ?_⟩
  replace hM := hM.call t_
  clear t_
  (try simp only [Act.put, st_a, st_0, st_s])
  refine wl_give rfl (g_move _ (.tuple #[.int .i64 (((i : Nat) : Int)), .int .i64 (0)]) rfl ?_)
  (try simp only [Act.put, st_a, st_0, st_s])
  refine wl_give rfl (g_extract _ #[.int .i64 (((i : Nat) : Int)), .int .i64 (0)] 0 (.int .i64 (((i : Nat) : Int))) rfl rfl ?_)
  (try simp only [Act.put, st_a, st_0, st_s])
  refine wl_give rfl (g_extract _ #[.int .i64 (((i : Nat) : Int)), .int .i64 (0)] 1 (.int .i64 (0)) rfl rfl ?_)
  (try simp only [Act.put, st_a, st_0, st_s])
  refine wl_give rfl (g_assign _ (.int .i64 (((i : Nat) : Int))) rfl ?_)
  (try simp only [Act.put, st_a, st_0, st_s])
  refine wl_give rfl (g_assign _ (.int .i64 (0)) rfl ?_)
  (try simp only [Act.put, st_a, st_0, st_s])
  refine wl_nil ?_
  refine hK3 _ _ ?_
  (try clear hK3 K3)
  refine wp_seq_k (fun K5 hK5 => ?_)
  refine wp_seq_k (fun K6 hK6 => ?_)
  refine wl_region ?_
  refine wl_give rfl (g_move _ (.int .i64 (0)) rfl ?_)
  (try simp only [Act.put, st_a, st_0, st_s])
  refine wl_give rfl (g_ine 29 _ _ .i64 (0) (0) false rfl rfl (by decide) ?_)
  (try simp only [Act.put, st_a, st_0, st_s])
  refine wl_nil ?_
  refine hK6 _ _ ?_
  (try clear hK6 K6)
  refine wp_cond_false rfl ?_
  refine wp_skip ?_
  refine hK5 _ _ ?_
  (try clear hK5 K5)
  refine wp_seq_k (fun K7 hK7 => ?_)
  refine wp_seq_k (fun K8 hK8 => ?_)
  refine wl_region ?_
  refine wl_give rfl (g_move _ (.int .i64 (((i : Nat) : Int))) rfl ?_)
  (try simp only [Act.put, st_a, st_0, st_s])
  refine wl_give rfl (g_move _ (.pointer (some ⟨p, 0, none⟩)) rfl ?_)
  (try simp only [Act.put, st_a, st_0, st_s])
  refine wl_give rfl (g_call 17 _ _ [.pointer (some ⟨p, 0, none⟩)] (kf17 _ _) rfl ((last_op (show Ms w0 w4 (blk (p) (snc (s) (P) ((kyk s P 0)) (.pointer (some ⟨q, 0, none⟩)) (.slice (some ⟨g, 0, none⟩) (d) (d))) 66 :: wk q n L (a) m :: blk (g) (kcs (ks)) 23 :: pu (Mi n d (a) L ks) :: blk (w.heap.size) (pkc (0) (⟨#[]⟩) (⟨#[]⟩) (0) (zk)) 44 :: R) from ((((hM.up 4 rfl).up 4 rfl).up 4 rfl).up 4 rfl)) l hl (by have := hl.out; omega) (by have := hl.out; omega)).mono ?_))
  rintro e w9 ⟨rfl, t_⟩
  refine ⟨_, rfl, ?_⟩
  replace hM := hM.call t_
  clear t_
  (try simp only [Act.put, st_a, st_0, st_s])
  refine wl_give rfl (g_ilss 3 _ _ .i64 (((i : Nat) : Int)) (l) false rfl rfl (decide_eq_false hJ) ?_)
  (try simp only [Act.put, st_a, st_0, st_s])
  refine wl_nil ?_
  refine hK8 _ _ ?_
  (try clear hK8 K8)
  refine wp_cond_false rfl ?_
  refine wp_skip ?_
  refine hK7 _ _ ?_
  (try clear hK7 K7)
  refine wp_seq_k (fun K10 hK10 => ?_)
  refine wp_seq_k (fun K11 hK11 => ?_)
  refine wl_region ?_
  refine wl_give rfl (g_move _ (.string (x)) rfl ?_)
  (try simp only [Act.put, st_a, st_0, st_s])
  refine wl_give rfl (g_lenT _ (x) ((((x).size : Nat) : Int)) rfl (rfl) ?_)
  (try simp only [Act.put, st_a, st_0, st_s])
  refine wl_give rfl (g_igtr 3 _ _ .i64 ((((x).size : Nat) : Int)) (1000) false rfl rfl (decide_eq_false hx) ?_)
  (try simp only [Act.put, st_a, st_0, st_s])
  refine wl_nil ?_
  refine hK11 _ _ ?_
  (try clear hK11 K11)
  refine wp_cond_false rfl ?_
  refine wp_skip ?_
  refine hK10 _ _ ?_
  (try clear hK10 K10)
  refine wp_seq_k (fun K12 hK12 => ?_)
  refine wl_region ?_
  refine wl_give rfl (g_move _ (.pointer (some ⟨p, 0, none⟩)) rfl ?_)
  (try simp only [Act.put, st_a, st_0, st_s])
  refine wl_give rfl (g_move _ (.int .i64 (((i : Nat) : Int))) rfl ?_)
  (try simp only [Act.put, st_a, st_0, st_s])
  refine wl_give rfl (g_call 26 _ _ [.pointer (some ⟨p, 0, none⟩), .int .i64 (((i : Nat) : Int))] (kf26 _ _) rfl ((mind_op (show Ms w0 w9 (blk (p) (snc (s) (P) ((kyk s P 0)) (.pointer (some ⟨q, 0, none⟩)) (.slice (some ⟨g, 0, none⟩) (d) (d))) 66 :: wk q n L (a) m :: blk (g) (kcs (ks)) 23 :: pu (Mi n d (a) L ks) :: blk (w.heap.size) (pkc (0) (⟨#[]⟩) (⟨#[]⟩) (0) (zk)) 44 :: R) from ((((hM.up 4 rfl).up 4 rfl).up 4 rfl).up 4 rfl)) ((i : Nat) : Int) i rfl hL hT hi (by have := hn.out; omega) (by have := hl.out; omega) (by have := hd.out; omega) (by have := hd.out; omega)).mono ?_))
  rintro e w13 ⟨m14, ks15, rfl, h_⟩
  refine ⟨_, rfl, ?_⟩
  replace hM : Ms w0 w13 (blk (p) (snc (s) (P) ((kyk s P 0)) (.pointer (some ⟨q, 0, none⟩)) (.slice (some ⟨g, 0, none⟩) (d) (d))) 66 :: wk q n L (i + 1) m14 :: blk (g) (kcs (ks15)) 23 :: pu (Mi n d (i + 1) L ks15) :: blk (w.heap.size) (pkc (0) (⟨#[]⟩) (⟨#[]⟩) (0) (zk)) 44 :: R) := h_
  clear h_
  (try simp only [Act.put, st_a, st_0, st_s])
  refine wl_nil ?_
  refine hK12 _ _ ?_
  (try clear hK12 K12)
  refine wp_seq_k (fun K16 hK16 => ?_)
  refine wl_region ?_
  refine wl_give rfl (g_move _ (.int .i64 (((i : Nat) : Int))) rfl ?_)
  (try simp only [Act.put, st_a, st_0, st_s])
  refine wl_give rfl (g_move _ (.string (x)) rfl ?_)
  (try simp only [Act.put, st_a, st_0, st_s])
  refine wl_give rfl (g_move _ (.pointer (some ⟨p, 0, none⟩)) rfl ?_)
  (try simp only [Act.put, st_a, st_0, st_s])
  refine wl_give rfl (g_move _ (.int .i64 (((i : Nat) : Int))) rfl ?_)
  (try simp only [Act.put, st_a, st_0, st_s])
  refine wl_give rfl (g_call 27 _ _ [.pointer (some ⟨p, 0, none⟩), .int .i64 (((i : Nat) : Int))] (kf27 _ _) rfl ((key_op (show Ms w0 w13 (blk (p) (snc (s) (P) ((kyk s P 0)) (.pointer (some ⟨q, 0, none⟩)) (.slice (some ⟨g, 0, none⟩) (d) (d))) 66 :: wk q n L (i + 1) m14 :: blk (g) (kcs (ks15)) 23 :: pu (Mi n d (i + 1) L ks15) :: blk (w.heap.size) (pkc (0) (⟨#[]⟩) (⟨#[]⟩) (0) (zk)) 44 :: R) from ((((hM.up 3 rfl).up 3 rfl).up 3 rfl).up 3 rfl)) ((i : Nat) : Int) i rfl hL (by omega) (by have := hd.out; omega) (by have := hd.out; omega) K1 hK1).mono ?_))
  rintro e w17 ⟨rfl, t_⟩
  refine ⟨_, rfl, ?_⟩
  replace hM := hM.call t_
  clear t_
  (try simp only [Act.put, st_a, st_0, st_s])
  refine wl_give rfl (g_move _ (.int .i64 (((i : Nat) : Int))) rfl ?_)
  (try simp only [Act.put, st_a, st_0, st_s])
  refine wl_give rfl (g_move _ (.string (x)) rfl ?_)
  (try simp only [Act.put, st_a, st_0, st_s])
  refine wl_give rfl (g_call 21 _ _ [.agg (kc (K1)).toArray, .int .i64 (((i : Nat) : Int)), .string (x)] (kf21 _ _) rfl ((tagS_any K1 ((i : Nat) : Int) x w17 (hM.tabs hT) (by omega) G hG).mono ?_))
  rintro e w18 ⟨rfl, t_⟩
  refine ⟨_, rfl, ?_⟩
  replace hM := hM.call t_
  clear t_
  (try simp only [Act.put, st_a, st_0, st_s])
  refine wl_give rfl (g_bldPk3 _ _ _ (((i : Nat) : Int)) (x) (G) rfl rfl rfl ?_)
  (try simp only [Act.put, st_a, st_0, st_s])
  refine wl_give rfl (g_alloc 44 (pkc (0) (⟨#[]⟩) (⟨#[]⟩) (0) (zk)) zeroPk ?_)
  intro w19 t_ b_
  replace hM := hM.new t_ b_
  clear t_ b_
  (try simp only [Act.put, st_a, st_0, st_s])
  refine wl_give rfl (g_store_all 44 _ _ (w18.heap.size) (pkc (((i : Nat) : Int)) (x) (G) (0) (zk)) _ 44 rfl rfl (hM.get 0 rfl) (szPk _ _ _ _ _) (kk2_len _ _ _ _ _ _ _ _ _ _) (one_pkc _ _ _ _ _) ?_)
  intro w20 t_ b_
  replace hM : Ms w0 w20 (blk (w18.heap.size) (pkc (((i : Nat) : Int)) (x) (G) (0) (zk)) 44 :: blk (p) (snc (s) (P) ((kyk s P 0)) (.pointer (some ⟨q, 0, none⟩)) (.slice (some ⟨g, 0, none⟩) (d) (d))) 66 :: wk q n L (i + 1) m14 :: blk (g) (kcs (ks15)) 23 :: pu (Mi n d (i + 1) L ks15) :: blk (w.heap.size) (pkc (0) (⟨#[]⟩) (⟨#[]⟩) (0) (zk)) 44 :: R) := hM.put 0 rfl t_ b_
  clear t_ b_
  (try simp only [Act.put, st_a, st_0, st_s])
  refine wl_nil ?_
  refine hK16 _ _ ?_
  (try clear hK16 K16)
  refine wp_seq_k (fun K21 hK21 => ?_)
  refine wp_seq_k (fun K22 hK22 => ?_)
  refine wl_region ?_
  refine wl_give rfl (g_move _ (.pointer (some ⟨p, 0, none⟩)) rfl ?_)
  (try simp only [Act.put, st_a, st_0, st_s])
  refine wl_give rfl (g_nil _ ⟨p, 0, none⟩ rfl ?_)
  (try simp only [Act.put, st_a, st_0, st_s])
  refine wl_give rfl (g_fa 66 _ (p) (0) (32) 1 rfl (faSn1 _ _ _) ?_)
  (try simp only [Act.put, st_a, st_0, st_s])
  refine wl_give rfl (g_load 25 _ (p) (32) 4 _ 66 _ rfl (hM.get 1 rfl) Tryd.underlying25 rfl sizeP (by rw [snc_length]; decide) (plc (P)) (sn_plan _ _ _ _ _) ?_)
  (try simp only [Act.put, st_a, st_0, st_s])
  refine wl_give rfl (g_move _ (.int .i64 (((i : Nat) : Int))) rfl ?_)
  (try simp only [Act.put, st_a, st_0, st_s])
  refine wl_give rfl (g_call 33 _ _ [.agg (plc (P)).toArray, .int .i64 (((i : Nat) : Int))] (kf33 _ _) rfl ((ptells_any P ((i : Nat) : Int) w20 T hTe).mono ?_))
  rintro e w23 ⟨rfl, t_⟩
  refine ⟨_, rfl, ?_⟩
  replace hM := hM.call t_
  clear t_
  (try simp only [Act.put, st_a, st_0, st_s])
  refine wl_give rfl (g_assign _ (.int .i64 (T)) rfl ?_)
  (try simp only [Act.put, st_a, st_0, st_s])
  refine wl_nil ?_
  refine hK22 _ _ ?_
  (try clear hK22 K22)
  refine wp_seq_k (fun K24 hK24 => ?_)
  refine wl_region ?_
  refine wl_give rfl (g_move _ (.int .i64 (T)) rfl ?_)
  (try simp only [Act.put, st_a, st_0, st_s])
  refine wl_give rfl (g_igtr 3 _ _ .i64 (T) (0) true rfl rfl (decide_eq_true hT0) ?_)
  (try simp only [Act.put, st_a, st_0, st_s])
  refine wl_nil ?_
  refine hK24 _ _ ?_
  (try clear hK24 K24)
  refine wp_cond_true rfl ?_
  refine wl_region ?_
  refine wl_give rfl (g_move _ (.int .i64 (T)) rfl ?_)
  (try simp only [Act.put, st_a, st_0, st_s])
  refine wl_give rfl (g_move _ (.pointer (some ⟨p, 0, none⟩)) rfl ?_)
  (try simp only [Act.put, st_a, st_0, st_s])
  refine wl_give rfl (g_move _ (.int .i64 (T)) rfl ?_)
  (try simp only [Act.put, st_a, st_0, st_s])
  refine wl_give rfl (g_call 27 _ _ [.pointer (some ⟨p, 0, none⟩), .int .i64 (T)] (kf27 _ _) rfl ((key_op (show Ms w0 w23 (blk (p) (snc (s) (P) ((kyk s P 0)) (.pointer (some ⟨q, 0, none⟩)) (.slice (some ⟨g, 0, none⟩) (d) (d))) 66 :: wk q n L (i + 1) m14 :: blk (g) (kcs (ks15)) 23 :: pu (Mi n d (i + 1) L ks15) :: blk (w18.heap.size) (pkc (((i : Nat) : Int)) (x) (G) (0) (zk)) 44 :: blk (w.heap.size) (pkc (0) (⟨#[]⟩) (⟨#[]⟩) (0) (zk)) 44 :: R) from ((((hM.up 4 rfl).up 4 rfl).up 4 rfl).up 4 rfl)) T j hTj hL (by omega) (by have := hd.out; omega) (by have := hd.out; omega) K2 hK2).mono ?_))
  rintro e w25 ⟨rfl, t_⟩
  refine ⟨_, rfl, ?_⟩
  replace hM := hM.call t_
  clear t_
  (try simp only [Act.put, st_a, st_0, st_s])
  refine wl_give rfl (g_fa 44 _ (w18.heap.size) (0) (3) 3 rfl (faPk3 _ _ _) ?_)
  (try simp only [Act.put, st_a, st_0, st_s])
  refine wl_give rfl (g_st1 3 _ _ (w18.heap.size) (3) (.int .i64 (T)) _ 44 rfl rfl (hM.get 0 rfl) (by rw [pkc_length]; decide) rfl rfl size3 ?_)
  intro w26 t_ b_
  replace hM : Ms w0 w26 (blk (w18.heap.size) (pkc (((i : Nat) : Int)) (x) (G) (T) (zk)) 44 :: blk (p) (snc (s) (P) ((kyk s P 0)) (.pointer (some ⟨q, 0, none⟩)) (.slice (some ⟨g, 0, none⟩) (d) (d))) 66 :: wk q n L (i + 1) m14 :: blk (g) (kcs (ks15)) 23 :: pu (Mi n d (i + 1) L ks15) :: blk (w.heap.size) (pkc (0) (⟨#[]⟩) (⟨#[]⟩) (0) (zk)) 44 :: R) := hM.put 0 rfl t_ b_
  clear t_ b_
  (try simp only [Act.put, st_a, st_0, st_s])
  refine wl_give rfl (g_fa 44 _ (w18.heap.size) (0) (4) 4 rfl (faPk4 _ _ _) ?_)
  (try simp only [Act.put, st_a, st_0, st_s])
  refine wl_give rfl (g_storeN 23 _ _ (w18.heap.size) (4) (kc (K2)) _ 44 (pkc (((i : Nat) : Int)) (x) (G) (T) (K2)) rfl rfl (hM.get 0 rfl) (szK _) (by rw [kc_length, pkc_length]; decide) (one_kc _) (pk_put _ _ _ _ _ _) ?_)
  intro w27 t_ b_
  replace hM : Ms w0 w27 (blk (w18.heap.size) (pkc (((i : Nat) : Int)) (x) (G) (T) (K2)) 44 :: blk (p) (snc (s) (P) ((kyk s P 0)) (.pointer (some ⟨q, 0, none⟩)) (.slice (some ⟨g, 0, none⟩) (d) (d))) 66 :: wk q n L (i + 1) m14 :: blk (g) (kcs (ks15)) 23 :: pu (Mi n d (i + 1) L ks15) :: blk (w.heap.size) (pkc (0) (⟨#[]⟩) (⟨#[]⟩) (0) (zk)) 44 :: R) := hM.put 0 rfl t_ b_
  clear t_ b_
  (try simp only [Act.put, st_a, st_0, st_s])
  refine wl_nil ?_
  refine hK21 _ _ ?_
  (try clear hK21 K21)
  refine wp_seq_k (fun K28 hK28 => ?_)
  refine wl_region ?_
  refine wl_give rfl (g_load_all 44 _ (w18.heap.size) (pkc (((i : Nat) : Int)) (x) (G) (T) (K2)) 44 _ rfl (hM.get 0 rfl) Tryd.underlying44 rfl (szPk _ _ _ _ _) ?_)
  (try simp only [Act.put, st_a, st_0, st_s])
  refine wl_give rfl (g_store_all 44 _ _ (w.heap.size) (pkc (((i : Nat) : Int)) (x) (G) (T) (K2)) _ 44 rfl rfl (hM.get 5 rfl) (szPk _ _ _ _ _) (kk2_len _ _ _ _ _ _ _ _ _ _) (one_pkc _ _ _ _ _) ?_)
  intro w29 t_ b_
  replace hM : Ms w0 w29 (blk (w18.heap.size) (pkc (((i : Nat) : Int)) (x) (G) (T) (K2)) 44 :: blk (p) (snc (s) (P) ((kyk s P 0)) (.pointer (some ⟨q, 0, none⟩)) (.slice (some ⟨g, 0, none⟩) (d) (d))) 66 :: wk q n L (i + 1) m14 :: blk (g) (kcs (ks15)) 23 :: pu (Mi n d (i + 1) L ks15) :: blk (w.heap.size) (pkc (((i : Nat) : Int)) (x) (G) (T) (K2)) 44 :: R) := hM.put 5 rfl t_ b_
  clear t_ b_
  (try simp only [Act.put, st_a, st_0, st_s])
  refine wl_give rfl (g_assign _ (.int .i64 (0)) rfl ?_)
  (try simp only [Act.put, st_a, st_0, st_s])
  refine wl_nil ?_
  refine hK28 _ _ ?_
  (try clear hK28 K28)
  refine wp_ret ?_
  (try simp only [Exit.inBlock, Exit.then])
  exact bodyPost_ret (results_blk_tmp rfl _ (pkc (((i : Nat) : Int)) (x) (G) (T) (K2)) (.int .i64 (0)) _ rfl rfl (hM.get 5 rfl) Tryd.underlying44 rfl (szPk _ _ _ _ _)) rfl ⟨rfl, sn_seal (l := ((i : Nat) : Int)) ((((((hM.erase 0).erase 4).up 3 rfl).up 3 rfl).up 3 rfl).up 3 rfl) hL hP hn hd ⟨by omega⟩ (by omega) (by have := hn.out; omega)⟩
theorem send_any {w0 w : World} {R : List HP} {p : Nat} {s : Ky} {P : Pl} {l : Int} (hM : Ms w0 w (sn p s P l :: R)) (hT : Tabs w0) (t : Int) (ht : -9223372036854775808 ≤ t ∧ t ≤ 9223372036854775807) (x : ByteArray) (i' : Int) (x' g' : ByteArray) (t' : Int) (k' : Ky) (E l' : Int) (h : Shut (sdA s P l t x = ((⟨i', x', g', t', k'⟩, E), l'))) :
    Calls Tryd.prog 15 #[.pointer (some ⟨p, 0, none⟩), .int .i64 t, .string x] w fun e w' => e = .returned (.tuple #[.agg (pkc i' x' g' t' k').toArray, .int .i64 E]) ∧ Ms w0 w' (sn p s P l' :: R) := by
  have h := h.out
  obtain ⟨q, g, n, d, a, m, L, ks, hL, hP, hn, hd, hl, hl0, hl1, hM⟩ := sn_opened hM
  unfold sdA at h
  obtain ⟨J, E1, hpat⟩ : ∃ J E1, pat P t = (J, E1) := ⟨_, _, rfl⟩
  rw [hpat] at h
  by_cases hE : E1 ≠ 0
  · rw [if_pos hE] at h; cases h
    exact send_e x J _ hM hT hL hP hn hd hl hl0 hl1 ht ⟨hpat⟩ hE
  · rw [if_neg hE] at h
    obtain rfl : E1 = 0 := Decidable.not_not.1 hE
    by_cases hJ : J < l
    · rw [if_pos hJ] at h; cases h
      exact send_late x J hM hT hL hP hn hd hl hl0 hl1 ht ⟨hpat⟩ hJ
    · rw [if_neg hJ] at h
      by_cases hx : 1000 < x.size
      · rw [if_pos hx] at h; cases h
        exact send_size x J hM hT hL hP hn hd hl hl0 hl1 ht ⟨hpat⟩ hJ (by omega)
      · rw [if_neg hx] at h
        rcases pat_cases hP t with ⟨e, _⟩ | ⟨e, _⟩ | ⟨i, i1, i2, e, _⟩
        · rw [e] at hpat; cases hpat
        · rw [e] at hpat; cases hpat
        · rw [e] at hpat
          obtain rfl : ((i : Nat) : Int) = J := congrArg Prod.fst hpat
          have hnn := hn.out
          have b1 : 1 ≤ n ∧ n ≤ 1024 := by omega
          have k1 : kyk s P ((i : Nat) : Int) = wl (n - i) L := by rw [kyk_nat b1.1 b1.2 hnn i (by omega), hL.out]
          unfold sdP at h
          simp only [Prod.mk.injEq, Pk.mk.injEq] at h
          obtain ⟨⟨⟨rfl, rfl, rfl, rfl, rfl⟩, rfl⟩, rfl⟩ := h
          by_cases hT0 : 0 < pte P ((i : Nat) : Int)
          · have hte := pte_le hP (i := (i : Int)) (by omega) i2
            rw [if_pos hT0]
            obtain ⟨j, hj⟩ : ∃ j : Nat, pte P ((i : Nat) : Int) = (j : Int) := ⟨(pte P ((i : Nat) : Int)).toNat, by omega⟩
            have k2 : kyk s P (pte P ((i : Nat) : Int)) = wl (n - j) L := by rw [hj, kyk_nat b1.1 b1.2 hnn j (by omega), hL.out]
            exact send_told x i (by omega) _ ⟨k1.symm⟩ _ ⟨rfl⟩ _ ⟨rfl⟩ hM hT hL hP hn hd hl hl0 hl1 ht ⟨e⟩ hJ (by omega) hT0 j hj (by omega) (by omega) _ ⟨k2.symm⟩
          · have hte := pte_le hP (i := (i : Int)) (by omega) i2
            have z : pte P ((i : Nat) : Int) = 0 := by omega
            rw [if_neg hT0, z]
            exact send_none x i (by omega) _ ⟨k1.symm⟩ _ ⟨rfl⟩ ⟨z⟩ hM hT hL hP hn hd hl hl0 hl1 ht ⟨e⟩ hJ (by omega)
set_option maxHeartbeats 4000000 in
theorem renew_e {w0 w : World} {R : List HP} {p q g n d a m : Nat} {s L : Ky} {P : Pl} {ks : List Ky} {l : Int} (Q : Pl) (E : Int) (hM : Ms w0 w (blk (p) (snc (s) (P) ((kyk s P 0)) (.pointer (some ⟨q, 0, none⟩)) (.slice (some ⟨g, 0, none⟩) (d) (d))) 66 :: wk q n L (a) m :: blk (g) (kcs (ks)) 23 :: pu (Mi n d (a) L ks) :: R)) (hT : Tabs w0) (hL : Shut (tg s chainW = L)) (hP : POk P) (hn : Shut (P.ct = (n : Int))) (hd : Shut (P.dl + 1 = (d : Int))) (hl : Shut (l + 1 = (a : Int))) (hl0 : 0 ≤ l) (hl1 : l ≤ P.ct) (hth : Shut (pth P = (Q, E))) (hE : E ≠ 0) : Calls Tryd.prog 13 #[.pointer (some ⟨p, 0, none⟩)] w fun e w' => e = .returned (.tuple #[.pointer none, .int .i64 E]) ∧ Ms w0 w' (sn p s P l :: R) := by
  go_enter Tryd.func13, Tryd.ntmps13
  refine wp_seq_k (fun K1 hK1 => ?_)
  refine wl_region ?_
  refine wl_give rfl (g_assign _ (.pointer none) rfl ?_)
  (try simp only [Act.put, st_a, st_0, st_s])
  refine wl_give rfl (g_assign _ (.int .i64 (0)) rfl ?_)
  (try simp only [Act.put, st_a, st_0, st_s])
  refine wl_nil ?_
  refine hK1 _ _ ?_
  (try clear hK1 K1)
  refine wp_seq_k (fun K2 hK2 => ?_)
  refine wl_region ?_
  refine wl_give rfl (g_move _ (.pointer (some ⟨p, 0, none⟩)) rfl ?_)
  (try simp only [Act.put, st_a, st_0, st_s])
  refine wl_give rfl (g_nil _ ⟨p, 0, none⟩ rfl ?_)
  (try simp only [Act.put, st_a, st_0, st_s])
  refine wl_give rfl (g_fa 66 _ (p) (0) (32) 1 rfl (faSn1 _ _ _) ?_)
  (try simp only [Act.put, st_a, st_0, st_s])
  refine wl_give rfl (g_load 25 _ (p) (32) 4 _ 66 _ rfl (hM.get 0 rfl) Tryd.underlying25 rfl sizeP (by rw [snc_length]; decide) (plc (P)) (sn_plan _ _ _ _ _) ?_)
  (try simp only [Act.put, st_a, st_0, st_s])
  refine wl_give rfl (g_call 28 _ _ [.agg (plc (P)).toArray] (kf28 _ _) rfl ((pthen_any P w hP.pin Q E hth).mono ?_))
  rintro e w3 ⟨rfl, t_⟩
  refine ⟨_, rfl, ?_⟩
  replace hM := hM.call t_
  clear t_
  (try simp only [Act.put, st_a, st_0, st_s])
  refine wl_give rfl (g_move _ (.tuple #[.agg (plc (Q)).toArray, .int .i64 (E)]) rfl ?_)
  (try simp only [Act.put, st_a, st_0, st_s])
  refine wl_give rfl (g_extract _ #[.agg (plc (Q)).toArray, .int .i64 (E)] 0 (.agg (plc (Q)).toArray) rfl rfl ?_)
  (try simp only [Act.put, st_a, st_0, st_s])
  refine wl_give rfl (g_extract _ #[.agg (plc (Q)).toArray, .int .i64 (E)] 1 (.int .i64 (E)) rfl rfl ?_)
  (try simp only [Act.put, st_a, st_0, st_s])
  refine wl_give rfl (g_alloc 25 (plc (pl0)) zeroPl ?_)
  intro w4 t_ b_
  replace hM := hM.new t_ b_
  clear t_ b_
  (try simp only [Act.put, st_a, st_0, st_s])
  refine wl_give rfl (g_store_all 25 _ _ (w3.heap.size) (plc (Q)) _ 25 rfl rfl (hM.get 0 rfl) (szPl _) (pp_len _ _) (one_plc _) ?_)
  intro w5 t_ b_
  replace hM : Ms w0 w5 (blk (w3.heap.size) (plc (Q)) 25 :: blk (p) (snc (s) (P) ((kyk s P 0)) (.pointer (some ⟨q, 0, none⟩)) (.slice (some ⟨g, 0, none⟩) (d) (d))) 66 :: wk q n L (a) m :: blk (g) (kcs (ks)) 23 :: pu (Mi n d (a) L ks) :: R) := hM.put 0 rfl t_ b_
  clear t_ b_
  (try simp only [Act.put, st_a, st_0, st_s])
  refine wl_give rfl (g_assign _ (.int .i64 (E)) rfl ?_)
  (try simp only [Act.put, st_a, st_0, st_s])
  refine wl_nil ?_
  refine hK2 _ _ ?_
  (try clear hK2 K2)
  refine wp_seq_k (fun K6 hK6 => ?_)
  refine wp_seq_k (fun K7 hK7 => ?_)
  refine wl_region ?_
  refine wl_give rfl (g_move _ (.int .i64 (E)) rfl ?_)
  (try simp only [Act.put, st_a, st_0, st_s])
  refine wl_give rfl (g_ine 29 _ _ .i64 (E) (0) true rfl rfl (decide_eq_true hE) ?_)
  (try simp only [Act.put, st_a, st_0, st_s])
  refine wl_nil ?_
  refine hK7 _ _ ?_
  (try clear hK7 K7)
  refine wp_cond_true rfl ?_
  refine wp_seq_k (fun K8 hK8 => ?_)
  refine wl_region ?_
  refine wl_give rfl (g_move _ (.int .i64 (E)) rfl ?_)
  (try simp only [Act.put, st_a, st_0, st_s])
  refine wl_give rfl (g_assign _ (.pointer none) rfl ?_)
  (try simp only [Act.put, st_a, st_0, st_s])
  refine wl_give rfl (g_assign _ (.int .i64 (E)) rfl ?_)
  (try simp only [Act.put, st_a, st_0, st_s])
  refine wl_nil ?_
  refine hK8 _ _ ?_
  (try clear hK8 K8)
  refine wp_ret ?_
  go_ret2
  exact ⟨rfl, sn_seal (l := l) (((((hM.erase 0).up 3 rfl).up 3 rfl).up 3 rfl).up 3 rfl) hL hP hn hd hl hl0 hl1⟩
set_option maxHeartbeats 4000000 in
theorem renew_o {w0 w : World} {R : List HP} {p q g n d a m : Nat} {s L : Ky} {P : Pl} {ks : List Ky} {l : Int} (Q : Pl) (E : Int) (S2 : Ky) (hM : Ms w0 w (blk (p) (snc (s) (P) ((kyk s P 0)) (.pointer (some ⟨q, 0, none⟩)) (.slice (some ⟨g, 0, none⟩) (d) (d))) 66 :: wk q n L (a) m :: blk (g) (kcs (ks)) 23 :: pu (Mi n d (a) L ks) :: R)) (hT : Tabs w0) (hL : Shut (tg s chainW = L)) (hP : POk P) (hn : Shut (P.ct = (n : Int))) (hd : Shut (P.dl + 1 = (d : Int))) (hl : Shut (l + 1 = (a : Int))) (hl0 : 0 ≤ l) (hl1 : l ≤ P.ct) (hth : Shut (pth P = (Q, E))) (hE : E = 0) (hQ : POk Q) (hS2 : Shut (tg s ⟨#[115, 101, 101, 100]⟩ = S2)) : Calls Tryd.prog 13 #[.pointer (some ⟨p, 0, none⟩)] w fun e w' => ∃ p2, e = .returned (.tuple #[.pointer (some ⟨p2, 0, none⟩), .int .i64 0]) ∧ Ms w0 w' (sn p2 S2 Q 0 :: sn p s P l :: R) := by
  go_enter Tryd.func13, Tryd.ntmps13
  refine wp_seq_k (fun K1 hK1 => ?_)
  refine wl_region ?_
  refine wl_give rfl (g_assign _ (.pointer none) rfl ?_)
  (try simp only [Act.put, st_a, st_0, st_s])
  refine wl_give rfl (g_assign _ (.int .i64 (0)) rfl ?_)
  (try simp only [Act.put, st_a, st_0, st_s])
  refine wl_nil ?_
  refine hK1 _ _ ?_
  (try clear hK1 K1)
  refine wp_seq_k (fun K2 hK2 => ?_)
  refine wl_region ?_
  refine wl_give rfl (g_move _ (.pointer (some ⟨p, 0, none⟩)) rfl ?_)
  (try simp only [Act.put, st_a, st_0, st_s])
  refine wl_give rfl (g_nil _ ⟨p, 0, none⟩ rfl ?_)
  (try simp only [Act.put, st_a, st_0, st_s])
  refine wl_give rfl (g_fa 66 _ (p) (0) (32) 1 rfl (faSn1 _ _ _) ?_)
  (try simp only [Act.put, st_a, st_0, st_s])
  refine wl_give rfl (g_load 25 _ (p) (32) 4 _ 66 _ rfl (hM.get 0 rfl) Tryd.underlying25 rfl sizeP (by rw [snc_length]; decide) (plc (P)) (sn_plan _ _ _ _ _) ?_)
  (try simp only [Act.put, st_a, st_0, st_s])
  refine wl_give rfl (g_call 28 _ _ [.agg (plc (P)).toArray] (kf28 _ _) rfl ((pthen_any P w hP.pin Q E hth).mono ?_))
  rintro e w3 ⟨rfl, t_⟩
  refine ⟨_, rfl, ?_⟩
  replace hM := hM.call t_
  clear t_
  (try simp only [Act.put, st_a, st_0, st_s])
  refine wl_give rfl (g_move _ (.tuple #[.agg (plc (Q)).toArray, .int .i64 (E)]) rfl ?_)
  (try simp only [Act.put, st_a, st_0, st_s])
  refine wl_give rfl (g_extract _ #[.agg (plc (Q)).toArray, .int .i64 (E)] 0 (.agg (plc (Q)).toArray) rfl rfl ?_)
  (try simp only [Act.put, st_a, st_0, st_s])
  refine wl_give rfl (g_extract _ #[.agg (plc (Q)).toArray, .int .i64 (E)] 1 (.int .i64 (E)) rfl rfl ?_)
  (try simp only [Act.put, st_a, st_0, st_s])
  refine wl_give rfl (g_alloc 25 (plc (pl0)) zeroPl ?_)
  intro w4 t_ b_
  replace hM := hM.new t_ b_
  clear t_ b_
  (try simp only [Act.put, st_a, st_0, st_s])
  refine wl_give rfl (g_store_all 25 _ _ (w3.heap.size) (plc (Q)) _ 25 rfl rfl (hM.get 0 rfl) (szPl _) (pp_len _ _) (one_plc _) ?_)
  intro w5 t_ b_
  replace hM : Ms w0 w5 (blk (w3.heap.size) (plc (Q)) 25 :: blk (p) (snc (s) (P) ((kyk s P 0)) (.pointer (some ⟨q, 0, none⟩)) (.slice (some ⟨g, 0, none⟩) (d) (d))) 66 :: wk q n L (a) m :: blk (g) (kcs (ks)) 23 :: pu (Mi n d (a) L ks) :: R) := hM.put 0 rfl t_ b_
  clear t_ b_
  (try simp only [Act.put, st_a, st_0, st_s])
  refine wl_give rfl (g_assign _ (.int .i64 (E)) rfl ?_)
  (try simp only [Act.put, st_a, st_0, st_s])
  refine wl_nil ?_
  refine hK2 _ _ ?_
  (try clear hK2 K2)
  refine wp_seq_k (fun K6 hK6 => ?_)
  refine wp_seq_k (fun K7 hK7 => ?_)
  refine wl_region ?_
  refine wl_give rfl (g_move _ (.int .i64 (E)) rfl ?_)
  (try simp only [Act.put, st_a, st_0, st_s])
  refine wl_give rfl (g_ine 29 _ _ .i64 (E) (0) false rfl rfl (decide_eq_false (fun h => h hE)) ?_)
  (try simp only [Act.put, st_a, st_0, st_s])
  refine wl_nil ?_
  refine hK7 _ _ ?_
  (try clear hK7 K7)
  refine wp_cond_false rfl ?_
  refine wp_skip ?_
  refine hK6 _ _ ?_
  (try clear hK6 K6)
  refine wp_seq_k (fun K8 hK8 => ?_)
  refine wp_region_steps (by kernel_rfl) (by kernel_rfl) [6] [0, 0, 0, 0, 0, 0, 0, 1, 1, 1, 1] [1, 1, 1, 1, 0, 0, 1, 1, 1, 1, 1] (by kernel_rfl) (Pm := Nat) (fun π => [.pointer (some ⟨p, 0, none⟩), .pointer (some ⟨p, 0, none⟩), .pointer (some ⟨p, 0, none⟩), .agg (kc (s)).toArray, .agg (kc (S2)).toArray, .agg (plc (Q)).toArray, .tuple #[.pointer (some ⟨π, 0, none⟩), .int .i64 (0)], .pointer (some ⟨π, 0, none⟩), .int .i64 (0), .pointer (some ⟨π, 0, none⟩), .int .i64 (0)]) (fun _ => by rfl) (fun j_ π wx => match j_ with | 0 => Ms w0 wx (blk (w3.heap.size) (plc (Q)) 25 :: blk (p) (snc (s) (P) ((kyk s P 0)) (.pointer (some ⟨q, 0, none⟩)) (.slice (some ⟨g, 0, none⟩) (d) (d))) 66 :: wk q n L (a) m :: blk (g) (kcs (ks)) 23 :: pu (Mi n d (a) L ks) :: R) | _ => Ms w0 wx (sn π S2 Q 0 :: blk (w3.heap.size) (plc (Q)) 25 :: blk (p) (snc (s) (P) ((kyk s P 0)) (.pointer (some ⟨q, 0, none⟩)) (.slice (some ⟨g, 0, none⟩) (d) (d))) 66 :: wk q n L (a) m :: blk (g) (kcs (ks)) 23 :: pu (Mi n d (a) L ks) :: R)) (0) hM.drew ?_ ?_ ?_
  · intro j_ k_ o_ hj_ ho_ π wx hM
    rcases j_ with _ | j_
    · obtain rfl := Option.some.inj hj_
      obtain rfl := Option.some.inj ho_
      simp only [fullL, Act.put, st_a, st_s, st_0]
      replace hM : Ms w0 wx (blk (w3.heap.size) (plc (Q)) 25 :: blk (p) (snc (s) (P) ((kyk s P 0)) (.pointer (some ⟨q, 0, none⟩)) (.slice (some ⟨g, 0, none⟩) (d) (d))) 66 :: wk q n L (a) m :: blk (g) (kcs (ks)) 23 :: pu (Mi n d (a) L ks) :: R) := hM
      exact gw rfl (g_call 10 _ _ [.agg (kc (S2)).toArray, .agg (plc (Q)).toArray] (kf10 _ _) rfl ((snew_any S2 Q w0 wx _ hM hT hQ).mono (fun e w' ⟨g_0, h1_, h2_⟩ => ⟨_, h1_, ⟨(g_0), rfl, fun i h1 h2 => by rcases i with _ | _ | _ | _ | _ | _ | _ | _ | _ | _ | _ | i <;> first | rfl | trivial | exact absurd rfl h2 | exact absurd h1 (by decide), h2_⟩⟩)))
    · simp at hj_
  · intro i_ o_ ho_ hi_ j_ hd_ hh_ hj_ π wx hM
    simp only [fullL, Act.put, st_a, st_s, st_0]
    rcases i_ with _ | _ | _ | _ | _ | _ | _ | _ | _ | _ | _ | i_
    · obtain rfl := Option.some.inj ho_
      exact gw rfl (g_move _ (.pointer (some ⟨p, 0, none⟩)) rfl ⟨rfl, hM⟩)
    · obtain rfl := Option.some.inj ho_
      exact gw rfl (g_nil _ ⟨p, 0, none⟩ rfl ⟨rfl, hM⟩)
    · obtain rfl := Option.some.inj ho_
      exact gw rfl (g_fa 66 _ (p) (0) (0) 0 rfl (faSn0 _ _ _) ⟨rfl, hM⟩)
    · obtain rfl := Option.some.inj ho_
      rcases j_ with _ | _ | j_
      · replace hM : Ms w0 wx (blk (w3.heap.size) (plc (Q)) 25 :: blk (p) (snc (s) (P) ((kyk s P 0)) (.pointer (some ⟨q, 0, none⟩)) (.slice (some ⟨g, 0, none⟩) (d) (d))) 66 :: wk q n L (a) m :: blk (g) (kcs (ks)) 23 :: pu (Mi n d (a) L ks) :: R) := hM
        exact gw rfl (g_load 23 _ (p) (0) 32 _ 66 _ rfl (hM.get 1 rfl) Tryd.underlying23 rfl size23 (by rw [snc_length]; decide) (kc (s)) (sn_seed _ _ _ _ _) ⟨rfl, hM⟩)
      · replace hM : Ms w0 wx (sn π S2 Q 0 :: blk (w3.heap.size) (plc (Q)) 25 :: blk (p) (snc (s) (P) ((kyk s P 0)) (.pointer (some ⟨q, 0, none⟩)) (.slice (some ⟨g, 0, none⟩) (d) (d))) 66 :: wk q n L (a) m :: blk (g) (kcs (ks)) 23 :: pu (Mi n d (a) L ks) :: R) := hM
        exact gw rfl (g_load 23 _ (p) (0) 32 _ 66 _ rfl (hM.get 2 rfl) Tryd.underlying23 rfl size23 (by rw [snc_length]; decide) (kc (s)) (sn_seed _ _ _ _ _) ⟨rfl, hM⟩)
      · exact absurd hj_ (by simp)
    · obtain rfl := Option.some.inj ho_
      rcases j_ with _ | _ | j_
      · replace hM : Ms w0 wx (blk (w3.heap.size) (plc (Q)) 25 :: blk (p) (snc (s) (P) ((kyk s P 0)) (.pointer (some ⟨q, 0, none⟩)) (.slice (some ⟨g, 0, none⟩) (d) (d))) 66 :: wk q n L (a) m :: blk (g) (kcs (ks)) 23 :: pu (Mi n d (a) L ks) :: R) := hM
        exact gw rfl (g_call 29 _ _ [.agg (kc (s)).toArray] (kf29 _ _) rfl ((cnext_any s S2 wx (hM.tabs hT) hS2).mono (fun _ _ ⟨h1_, h2_⟩ => ⟨_, h1_, rfl, hM.call h2_⟩)))
      · exact absurd hh_ (by decide)
      · exact absurd hj_ (by simp)
    · obtain rfl := Option.some.inj ho_
      rcases j_ with _ | _ | j_
      · replace hM : Ms w0 wx (blk (w3.heap.size) (plc (Q)) 25 :: blk (p) (snc (s) (P) ((kyk s P 0)) (.pointer (some ⟨q, 0, none⟩)) (.slice (some ⟨g, 0, none⟩) (d) (d))) 66 :: wk q n L (a) m :: blk (g) (kcs (ks)) 23 :: pu (Mi n d (a) L ks) :: R) := hM
        exact gw rfl (g_load_all 25 _ (w3.heap.size) (plc (Q)) 25 _ rfl (hM.get 0 rfl) Tryd.underlying25 rfl (szPl _) ⟨rfl, hM⟩)
      · exact absurd hh_ (by decide)
      · exact absurd hj_ (by simp)
    · exact absurd (by decide) hi_
    · obtain rfl := Option.some.inj ho_
      exact gw rfl (g_extract _ #[.pointer (some ⟨π, 0, none⟩), .int .i64 (0)] 0 (.pointer (some ⟨π, 0, none⟩)) rfl rfl ⟨rfl, hM⟩)
    · obtain rfl := Option.some.inj ho_
      exact gw rfl (g_extract _ #[.pointer (some ⟨π, 0, none⟩), .int .i64 (0)] 1 (.int .i64 (0)) rfl rfl ⟨rfl, hM⟩)
    · obtain rfl := Option.some.inj ho_
      exact gw rfl (g_assign _ (.pointer (some ⟨π, 0, none⟩)) rfl ⟨rfl, hM⟩)
    · obtain rfl := Option.some.inj ho_
      exact gw rfl (g_assign _ (.int .i64 (0)) rfl ⟨rfl, hM⟩)
    · simp at ho_
  · simp only [fullL, Act.put, st_a, st_s, st_0]
    rintro p10 w9 hM
    replace hM : Ms w0 w9 (sn p10 S2 Q 0 :: blk (w3.heap.size) (plc (Q)) 25 :: blk (p) (snc (s) (P) ((kyk s P 0)) (.pointer (some ⟨q, 0, none⟩)) (.slice (some ⟨g, 0, none⟩) (d) (d))) 66 :: wk q n L (a) m :: blk (g) (kcs (ks)) 23 :: pu (Mi n d (a) L ks) :: R) := hM
    refine hK8 _ _ ?_
    (try clear hK8 K8)
    refine wp_ret ?_
    go_ret2
    refine ⟨_, rfl, ?_⟩
    have h8 := sn_seal (l := l) ((((((hM.erase 1).up 0 rfl).up 4 rfl).up 4 rfl).up 4 rfl).up 4 rfl) hL hP hn hd hl hl0 hl1
    exact h8.up 1 rfl
theorem pth_ok {P Q : Pl} (h : pth P = (Q, 0)) : POk Q := by
  unfold pth at h
  by_cases hk : POk P
  · rw [if_neg (fun hn => hn hk)] at h
    by_cases hX : 1152921504606846976 < bgn P (P.ct + 1)
    · rw [if_pos hX] at h; cases h
    · rw [if_neg hX] at h
      have e : (⟨bgn P (P.ct + 1), P.lg, P.dl, P.ct⟩ : Pl) = Q := congrArg Prod.fst h
      have b := bgn_bd hk (i := P.ct + 1) (by omega) (by omega)
      subst e
      refine ⟨?_, ?_, ?_, ?_, ?_, ?_, ?_, ?_⟩ <;> dsimp only <;> omega
  · rw [if_pos hk] at h; cases h
section
variable {w0 w : World} {R : List HP} {p : Nat} {s : Ky} {P : Pl} {l : Int}
theorem renew_no (hM : Ms w0 w (sn p s P l :: R)) (hT : Tabs w0) (Q : Pl) (E : Int) (hth : Shut (pth P = (Q, E))) (hE : E ≠ 0) : Calls Tryd.prog 13 #[.pointer (some ⟨p, 0, none⟩)] w fun e w' => e = .returned (.tuple #[.pointer none, .int .i64 E]) ∧ Ms w0 w' (sn p s P l :: R) := by
  obtain ⟨q, g, n, d, a, m, L, ks, hL, hP, hn, hd, hl, hl0, hl1, hM⟩ := sn_opened hM
  exact renew_e Q E hM hT hL hP hn hd hl hl0 hl1 hth hE
theorem renew_yes (hM : Ms w0 w (sn p s P l :: R)) (hT : Tabs w0) (Q : Pl) (hth : Shut (pth P = (Q, 0))) : Calls Tryd.prog 13 #[.pointer (some ⟨p, 0, none⟩)] w fun e w' => ∃ p2, e = .returned (.tuple #[.pointer (some ⟨p2, 0, none⟩), .int .i64 0]) ∧ Ms w0 w' (sn p2 (tg s seedW) Q 0 :: sn p s P l :: R) := by
  obtain ⟨q, g, n, d, a, m, L, ks, hL, hP, hn, hd, hl, hl0, hl1, hM⟩ := sn_opened hM
  exact renew_o Q 0 _ hM hT hL hP hn hd hl hl0 hl1 hth rfl (pth_ok hth.out) ⟨rfl⟩
end
end Go.Proofs.YtphocklnhoakcaaDoor
