/- A sender in memory as a part of its own; what (*Sender).key, mind, New, Last and Known answer, and what they do to it. -/
import Derived.Test.YtcclcemdodoiiaaGreatDoorQRunG
import Derived.Test.YtcclcemdodoiiaaGreatDoorQSd1
import Derived.Test.YtcclcemdodoiiaaGreatDoorQPb4
import Derived.Test.YtcclcemdodoiiaaGreatDoorQPl1
import Derived.WalkKit
import Derived.WalkSpells
import Derived.WalkLawsBesides
namespace Go.Proofs.YtcclcemdodoiiaaGreatDoor
set_option maxRecDepth 10000
open Go Go.RowKit
set_option linter.unusedVariables false
set_option linter.unusedSimpArgs false

/-- A sender at p, of a walker at q ahead of the key a and of a row of d keys at g. -/
def sv (p q g n d : Nat) (s : Ky) (P : Pl) (k : Ky) (a : Nat) : HP :=
  ex fun x : Nat × List Ky => [pu (Mi n d a (tg s chainW) x.2), blk p (snc s P k (.pointer (some ⟨q, 0, none⟩)) (.slice (some ⟨g, 0, none⟩) d d)) 115, wk q n (tg s chainW) a x.1, blk g (kcs x.2) 23]
/-- A sender at p, of a seed and a plan, that sent in the interval l at last. -/
def sn (p : Nat) (s : Ky) (P : Pl) (l : Int) : HP :=
  ex fun x : Nat × Nat => [pu (POk P ∧ 0 ≤ l ∧ l ≤ P.ct), sv p x.1 x.2 P.ct.toNat (P.dl.toNat + 1) s P (kyk s P 0) (l.toNat + 1)]
section
variable {w0 w : World} {R : List HP} {p q g n d a m : Nat} {s : Ky} {P : Pl} {k : Ky} {ks : List Ky} {l : Int}
theorem sv_mk (h : Ms w0 w (blk p (snc s P k (.pointer (some ⟨q, 0, none⟩)) (.slice (some ⟨g, 0, none⟩) d d)) 115 :: wk q n (tg s chainW) a m :: blk g (kcs ks) 23 :: R)) (hm : Mi n d a (tg s chainW) ks) : Ms w0 w (sv p q g n d s P k a :: R) :=
  Ms.shut (m, ks) (Ms.mkpu hm h)
theorem sv_open (h : Ms w0 w (sv p q g n d s P k a :: R)) : ∃ m ks, Mi n d a (tg s chainW) ks ∧ Ms w0 w (blk p (snc s P k (.pointer (some ⟨q, 0, none⟩)) (.slice (some ⟨g, 0, none⟩) d d)) 115 :: wk q n (tg s chainW) a m :: blk g (kcs ks) 23 :: R) := by
  obtain ⟨⟨m, ks⟩, h⟩ := h.opn
  obtain ⟨h1, h2⟩ := h.unpu
  exact ⟨m, ks, h1, h2⟩
theorem sn_mk (h : Ms w0 w (sv p q g P.ct.toNat (P.dl.toNat + 1) s P (kyk s P 0) (l.toNat + 1) :: R)) (h1 : POk P) (h2 : 0 ≤ l) (h3 : l ≤ P.ct) : Ms w0 w (sn p s P l :: R) :=
  Ms.shut (q, g) (Ms.mkpu ⟨h1, h2, h3⟩ h)
theorem sn_open (h : Ms w0 w (sn p s P l :: R)) : ∃ q g, (POk P ∧ 0 ≤ l ∧ l ≤ P.ct) ∧ Ms w0 w (sv p q g P.ct.toNat (P.dl.toNat + 1) s P (kyk s P 0) (l.toNat + 1) :: R) := by
  obtain ⟨⟨q, g⟩, h⟩ := h.opn
  obtain ⟨h1, h2⟩ := h.unpu
  exact ⟨q, g, h1, h2⟩
end
set_option maxHeartbeats 4000000 in
theorem skey_a {p q g d : Nat} {s : Ky} {P : Pl} {k : Ky} {ks : List Ky} (i j : Nat) (w : World) (K : Ky) (hp : Blk w p (snc s P k (.pointer (some ⟨q, 0, none⟩)) (.slice (some ⟨g, 0, none⟩) d d)) 115) (hg : Blk w g (kcs ks) 23) (hj : Shut ((((i : Nat) : Int)).tmod (((d : Nat) : Int)) = ((j : Nat) : Int))) (hd : 0 < d) (hjd : j < d) (hload : Shut (((kcs ks).drop (0 + j * 32)).take 32 = kc K)) (hfit : Shut (0 + j * 32 + 32 ≤ (kcs ks).length)) : Calls Tryz.prog 51 #[.pointer (some ⟨p, 0, none⟩), .int .i64 ((i : Nat) : Int)] w fun e w' => e = .returned (.agg (kc K).toArray) ∧ Below w.heap.size w w' := by
  have hM := Ms.refl w
  go_enter Tryz.func51, Tryz.ntmps51
  refine wp_seq_k fun _ κ1 => wl_region (wl_give rfl (g_alloc 23 (kc (zk)) zeroK ?_))
  intro w2 t_ b_
  replace hM := hM.new t_ b_
  clear t_ b_
  try simp only [nz]
  refine wl_nil (κ1 _ _ ?_)
  refine wp_seq_k fun _ κ3 => ?_
  refine wp_region_steps (by kernel_rfl) (by kernel_rfl) [13] [0, 0, 0, 0, 0, 0, 0, 0, 0, 0, 0, 0, 0, 0] [0, 0, 0, 0, 0, 0, 0, 0, 0, 0, 0, 0, 0, 1] (by kernel_rfl) (Pm := Unit) (fun π => [.pointer (some ⟨p, 0, none⟩), .pointer (some ⟨p, 0, none⟩), .pointer (some ⟨p, 69, none⟩), .slice (some ⟨g, 0, none⟩) (d) (d), .int .i64 (((i : Nat) : Int)), .pointer (some ⟨p, 0, none⟩), .pointer (some ⟨p, 0, none⟩), .pointer (some ⟨p, 69, none⟩), .slice (some ⟨g, 0, none⟩) (d) (d), .int .i64 (((d : Nat) : Int)), .int .i64 (((j : Nat) : Int)), .pointer (some ⟨g, 0 + j * 32, none⟩), .agg (kc (K)).toArray, undef]) (fun _ => by rfl) (fun j_ π wx => match j_ with | 0 => Ms w wx [blk (w.heap.size) (kc (zk)) 23] | _ => Ms w wx [blk (w.heap.size) (kc (K)) 23]) () hM.drew ?_ ?_ ?_
  · intro j_ k_ o_ hj_ ho_ π wx hM
    rcases j_ with _ | j_
    · obtain rfl := Option.some.inj hj_
      cases so ho_
      simp only [fullL, Act.put, st_a, st_s, st_0]
      change Ms _ _ _ at hM
      exact gw rfl (g_store_all 23 _ _ (w.heap.size) (kc (K)) _ 23 rfl rfl (hM.get 0 rfl) (szK _) (kk_len _ _) (one_kc _) (fun w' t_ b_ => ⟨(), rfl, (fun _ _ _ => by first | rfl | trivial), hM.put 0 rfl t_ b_⟩))
    · simp at hj_
  · intro i_ o_ ho_ hi_ j_ hd_ hh_ hj_ π wx hM
    simp only [fullL, Act.put, st_a, st_s, st_0]
    rcases i_ with _ | _ | _ | _ | _ | _ | _ | _ | _ | _ | _ | _ | _ | _ | i_
    · cases so ho_
      exact gw rfl (g_move _ _ rfl ⟨rfl, hM⟩)
    · cases so ho_
      exact gw rfl (g_nil _ _ rfl ⟨rfl, hM⟩)
    · cases so ho_
      exact gw rfl (g_fa _ _ _ _ _ _ rfl (faSn4 _ _ _) ⟨rfl, hM⟩)
    · cases so ho_
      rcases j_ with _ | _ | j_
      · change Ms _ _ _ at hM
        exact gw rfl (g_ld1 113 _ (p) (69) _ rfl (ldKS _ _ _ _ ((hp.on hM).cell (69) _ (sn_v _ _ _ _ _))) ⟨rfl, hM⟩)
      · exact absurd hh_ (by decide)
      · exact absurd hj_ (by simp)
    · cases so ho_
      exact gw rfl (g_move _ _ rfl ⟨rfl, hM⟩)
    · cases so ho_
      exact gw rfl (g_move _ _ rfl ⟨rfl, hM⟩)
    · cases so ho_
      exact gw rfl (g_nil _ _ rfl ⟨rfl, hM⟩)
    · cases so ho_
      exact gw rfl (g_fa _ _ _ _ _ _ rfl (faSn4 _ _ _) ⟨rfl, hM⟩)
    · cases so ho_
      rcases j_ with _ | _ | j_
      · change Ms _ _ _ at hM
        exact gw rfl (g_ld1 113 _ (p) (69) _ rfl (ldKS _ _ _ _ ((hp.on hM).cell (69) _ (sn_v _ _ _ _ _))) ⟨rfl, hM⟩)
      · exact absurd hh_ (by decide)
      · exact absurd hj_ (by simp)
    · cases so ho_
      exact gw rfl (g_len _ 113 23 ((some ⟨g, 0, none⟩)) (d) (d) (((d : Nat) : Int)) Tryz.underlying113 rfl (rfl) ⟨rfl, hM⟩)
    · cases so ho_
      exact gw rfl (g_irem 3 _ _ .i64 (((i : Nat) : Int)) (((d : Nat) : Int)) (((j : Nat) : Int)) rfl rfl (by omega) hj.out ⟨rfl, hM⟩)
    · cases so ho_
      exact gw rfl (g_ix _ _ 113 23 32 Tryz.underlying113 szof23 g 0 d d j (0 + j * 32) _ rfl rfl rfl hjd rfl ⟨rfl, hM⟩)
    · cases so ho_
      rcases j_ with _ | _ | j_
      · change Ms _ _ _ at hM
        exact gw rfl (g_load 23 _ g (0 + j * 32) 32 _ 23 _ rfl (hg.on hM) Tryz.underlying23 rfl size23 hfit.out (kc (K)) hload.out ⟨rfl, hM⟩)
      · exact absurd hh_ (by decide)
      · exact absurd hj_ (by simp)
    · exact absurd (by decide) hi_
    · simp at ho_
  · simp only [fullL, Act.put, st_a, st_s, st_0]
    rintro ⟨⟩ w4 hM
    replace hM : Ms w w4 [blk (w.heap.size) (kc (K)) 23] := hM
    refine κ3 _ _ (wp_ret ?_)
    (try simp only [Exit.inBlock, Exit.then])
    exact bodyPost_ret (results_blk rfl _ (kc (K)) _ rfl (hM.get 0 rfl) Tryz.underlying23 rfl (szK _)) rfl ⟨rfl, hM.below⟩
theorem skey_any {w0 w : World} {R : List HP} {p q g n d a : Nat} {s : Ky} {P : Pl} {k : Ky} (i : Nat) (hM : Ms w0 w (sv p q g n d s P k a :: R)) (h1 : i < a) (h2 : a ≤ i + d) (hd : 0 < d) (K : Ky) (hK : Shut (wl (n - i) (tg s chainW) = K)) : Calls Tryz.prog 51 #[.pointer (some ⟨p, 0, none⟩), .int .i64 ((i : Nat) : Int)] w fun e w' => e = .returned (.agg (kc K).toArray) ∧ Below w.heap.size w w' := by
  obtain ⟨m, ks, hmi, hM⟩ := sv_open hM
  have hjd : i % d < d := Nat.mod_lt _ hd
  have hk : ks[i % d]? = some K := by rw [← hK.out]; exact hmi.key i h1 h2
  exact skey_a i (i % d) w K (hM.get 0 rfl) (hM.get 2 rfl) ⟨rfl⟩ hd hjd ⟨by rw [Nat.zero_add]; exact kcs_get ks _ K hk⟩ ⟨by rw [kcs_length, hmi.len]; omega⟩
set_option maxHeartbeats 4000000 in
theorem last_a {p q g d a b : Nat} {s : Ky} {P : Pl} {k : Ky} (w : World) (hp : Blk w p (snc s P k (.pointer (some ⟨q, 0, none⟩)) (.slice (some ⟨g, 0, none⟩) d d)) 115) (hat : Calls Tryz.prog 72 #[.pointer (some ⟨q, 0, none⟩)] w fun e w' => e = .returned (.int .i64 ((a : Nat) : Int)) ∧ Below w.heap.size w w') (hs : Shut (IntKind.i64.wrap (((a : Nat) : Int) - 1) = ((b : Nat) : Int))) : Calls Tryz.prog 53 #[.pointer (some ⟨p, 0, none⟩)] w fun e w' => e = .returned (.int .i64 ((b : Nat) : Int)) ∧ Below w.heap.size w w' := by
  have hM := Ms.refl w
  go_enter Tryz.func53, Tryz.ntmps53
  refine wp_seq_k fun _ κ1 => wl_region (wl_fare kn ?_)
  simp (disch := omega) only [fx, pv, kx]
  refine wl_nil (κ1 _ _ ?_)
  refine wp_seq_k fun _ κ2 => wl_region (wl_fare kn ?_)
  simp (disch := omega) only [fx, pv, kx, (hp.on hM).cell 68 (.pointer (some ⟨q, 0, none⟩)) (sn_q _ _ _ _ _)]
  refine wl_give rfl (g_cM hM (kf72 _ _) (hat) rfl fun w3 hM => wl_fare kn ?_)
  simp (disch := omega) only [fx, pv, kx, (hs.out : IntKind.i64.wrap ((((a : Nat) : Int)) - (1)) = ((b : Nat) : Int))]
  refine wl_nil (κ2 _ _ ?_)
  refine wp_ret ?_
  go_ret
  exact ⟨rfl, hM.below⟩
set_option maxHeartbeats 4000000 in
theorem known_a {p q g d : Nat} {s : Ky} {P : Pl} {k : Ky} (w : World) (hp : Blk w p (snc s P k (.pointer (some ⟨q, 0, none⟩)) (.slice (some ⟨g, 0, none⟩) d d)) 115) : Calls Tryz.prog 26 #[.pointer (some ⟨p, 0, none⟩)] w fun e w' => e = .returned (.agg (kc k).toArray) ∧ Below w.heap.size w w' := by
  have hM := Ms.refl w
  go_enter Tryz.func26, Tryz.ntmps26
  refine wp_seq_k fun _ κ1 => wl_region (wl_give rfl (g_alloc 23 (kc (zk)) zeroK ?_))
  intro w2 t_ b_
  replace hM := hM.new t_ b_
  clear t_ b_
  try simp only [nz]
  refine wl_nil (κ1 _ _ ?_)
  refine wp_seq_k fun _ κ3 => wl_region (wl_fare kn ?_)
  simp (disch := omega) only [fx, pv, kx]
  refine wl_give rfl (g_load 23 _ (p) (36) 32 _ 115 _ rfl (hp.on hM) Tryz.underlying23 rfl size23 (by rw [snc_length]; decide) (kc (k)) (sn_known _ _ _ _ _) ?_)
  try simp only [nz]
  refine wl_give rfl (g_store_all 23 _ _ (w.heap.size) (kc (k)) _ 23 rfl rfl (hM.get 0 rfl) (szK _) (kk_len _ _) (one_kc _) fun w4 t_ b_ => ?_)
  replace hM : Ms w w4 [blk (w.heap.size) (kc (k)) 23] := hM.put 0 rfl t_ b_
  clear t_ b_
  try simp only [nz]
  refine wl_nil (κ3 _ _ ?_)
  refine wp_ret ?_
  (try simp only [Exit.inBlock, Exit.then])
  exact bodyPost_ret (results_blk rfl _ (kc (k)) _ rfl (hM.get 0 rfl) Tryz.underlying23 rfl (szK _)) rfl ⟨rfl, hM.below⟩
theorem known_any {w0 w : World} {R : List HP} {p : Nat} {s : Ky} {P : Pl} {l : Int} (hM : Ms w0 w (sn p s P l :: R)) : Calls Tryz.prog 26 #[.pointer (some ⟨p, 0, none⟩)] w fun e w' => e = .returned (.agg (kc (kyk s P 0)).toArray) ∧ Below w.heap.size w w' := by
  obtain ⟨q, g, ⟨h1, h2, h3⟩, hM⟩ := sn_open hM
  obtain ⟨m, ks, hmi, hM⟩ := sv_open hM
  exact known_a w (hM.get 0 rfl)
set_option maxHeartbeats 4000000 in
theorem mind_any {w0 w : World} {R : List HP} {p q g n d a00 : Nat} {s : Ky} {P : Pl} {k : Ky} (i : Nat) (hM : Ms w0 w (sv p q g n d s P k a00 :: R)) (hT : Tabs w0) (hi : i ≤ n) (hn : n ≤ 1024) (ha : a00 ≤ n + 1) (hd : 2 ≤ d) (hd2 : d ≤ 1000) : Calls Tryz.prog 50 #[.pointer (some ⟨p, 0, none⟩), .int .i64 ((i : Nat) : Int)] w fun e w' => e = .returned (.tuple #[]) ∧ Ms w0 w' (sv p q g n d s P k (max a00 (i + 1)) :: R) := by
  obtain ⟨m, ks, hmi, hM⟩ := sv_open hM
  obtain ⟨L, hL⟩ : ∃ L, tg s chainW = L := ⟨_, rfl⟩
  rw [hL] at hM hmi
  have hd0 : 0 < d := by omega
  go_enter Tryz.func50, Tryz.ntmps50
  refine wp_scope_straight ?_
  refine wp_seq_k fun _ κ1 => ?_
  refine wp_label ?_
  refine κ1 _ _ ?_
  refine wp_block ?_
  go_loopw [4] (fun v wr => ∃ (a m : Nat) (ks : List Ky), Mi n d a L ks ∧ a00 ≤ a ∧ a ≤ i + 1 + (a00 - (i + 1)) ∧ a ≤ n + 1 ∧ Ms w0 wr (blk (p) (snc (s) (P) (k) (.pointer (some ⟨q, 0, none⟩)) (.slice (some ⟨g, 0, none⟩) (d) (d))) 115 :: wk q n L (a) m :: blk (g) (kcs (ks)) 23 :: R)) (fun _ wr => (n + 2 - intOf ((wr.cell? ⟨q, 0, none⟩).getD undef)).toNat)
  case atStart => exact ⟨a00, m, ks, hmi, Nat.le_refl _, by omega, ha, hM⟩
  case round =>
    clear hM hmi
    obtain ⟨a0, m, ks, hmi, ha1, ha2, ha0, hM⟩ := hrel
    have hc0 : Shut (intOf ((wr.cell? ⟨q, 0, none⟩).getD undef) = (a0 : Int)) := ⟨by rw [wk_c0 (hM.up 1 rfl)]; rfl⟩
    have hrm : Shut ((((a0 : Nat) : Int)).tmod (((d : Nat) : Int)) = ((a0 % d : Nat) : Int)) := ⟨rfl⟩
    refine wp_block (wp_seq_k fun _ κ2 => ?_)
    refine wp_region_fixed (by kernel_rfl) (by kernel_rfl) [.pointer (some ⟨p, 0, none⟩), .pointer (some ⟨p, 0, none⟩), .pointer (some ⟨p, 68, none⟩), .pointer (some ⟨q, 0, none⟩), .int .i64 (((a0 : Nat) : Int)), .pointer (some ⟨p, 0, none⟩), .pointer (some ⟨p, 0, none⟩), .pointer (some ⟨p, 69, none⟩), .slice (some ⟨g, 0, none⟩) (d) (d), .int .i64 (((d : Nat) : Int)), .int .i64 (((a0 % d : Nat) : Int)), .int .i64 (((a0 % d : Nat) : Int))] (by rfl) (fun wx => Ms w0 wx (blk (p) (snc (s) (P) (k) (.pointer (some ⟨q, 0, none⟩)) (.slice (some ⟨g, 0, none⟩) (d) (d))) 115 :: wk q n L (a0) m :: blk (g) (kcs (ks)) 23 :: R)) hM.drew ?_ ?_
    · simp only [fullL, Act.put, st_a, st_s, st_0]
      refine ⟨?_, ?_, ?_, ?_, ?_, ?_, ?_, ?_, ?_, ?_, ?_, ?_, trivial⟩
      · exact mvL rfl rfl
      · exact ncL rfl rfl
      · exact faL rfl rfl (fun _ => faSn3 _ _ _)
      · exact fun wx hM => gw rfl (g_ld1 110 _ (p) (68) _ rfl (ldPW _ _ _ _ ((hM.get 0 rfl).cell (68) _ (sn_q _ _ _ _ _))) ⟨rfl, hM⟩)
      · exact fun wx hM => gw rfl (g_call 72 _ _ [.pointer (some ⟨q, 0, none⟩)] (kf72 _ _) rfl ((wat_any (show Ms w0 wx (wk q n L (a0) m :: blk (p) (snc (s) (P) (k) (.pointer (some ⟨q, 0, none⟩)) (.slice (some ⟨g, 0, none⟩) (d) (d))) 115 :: blk (g) (kcs (ks)) 23 :: R) from (hM.up 1 rfl))).mono (fun _ _ ⟨h1_, h2_⟩ => ⟨_, h1_, rfl, hM.call h2_⟩)))
      · exact mvL rfl rfl
      · exact ncL rfl rfl
      · exact faL rfl rfl (fun _ => faSn4 _ _ _)
      · exact fun wx hM => gw rfl (g_ld1 113 _ (p) (69) _ rfl (ldKS _ _ _ _ ((hM.get 0 rfl).cell (69) _ (sn_v _ _ _ _ _))) ⟨rfl, hM⟩)
      · exact fun wx hM => gw rfl (g_len _ 113 23 ((some ⟨g, 0, none⟩)) (d) (d) (((d : Nat) : Int)) Tryz.underlying113 rfl (rfl) ⟨rfl, hM⟩)
      · exact fun wx hM => gw rfl (g_irem 3 _ _ .i64 (((a0 : Nat) : Int)) (((d : Nat) : Int)) (((a0 % d : Nat) : Int)) rfl rfl (by omega) hrm.out ⟨rfl, hM⟩)
      · exact asL rfl rfl
    · simp only [fullL, Act.put, st_a, st_s, st_0]
      intro w3 hM
      refine κ2 _ _ ?_
      refine wp_block ?_
      go_loopw [4] (fun v wr => ∃ (a m b : Nat) (ks : List Ky), Mi n d a L ks ∧ a0 ≤ a ∧ (a0 < a → a0 ≤ i) ∧ a ≤ i + 1 + (a0 - (i + 1)) ∧ a ≤ n + 1 ∧ b ≤ d ∧ (b < d → a % d = b) ∧ (b = d → a0 < a) ∧ v = .int .i64 ((b : Nat) : Int) ∧ Ms w0 wr (blk (p) (snc (s) (P) (k) (.pointer (some ⟨q, 0, none⟩)) (.slice (some ⟨g, 0, none⟩) (d) (d))) 115 :: wk q n L (a) m :: blk (g) (kcs (ks)) 23 :: R)) (fun v _ => (d - intOf v).toNat)
      case atStart => exact ⟨a0, m, a0 % d, ks, hmi, Nat.le_refl _, fun h => absurd h (Nat.lt_irrefl _), by omega, ha0, Nat.le_of_lt (Nat.mod_lt _ hd0), fun _ => rfl, fun h => absurd h (Nat.ne_of_lt (Nat.mod_lt _ hd0)), rfl, hM⟩
      case round =>
        clear hM hmi
        obtain ⟨a, m, b, ks, hmi, h1, h1b, h2, h3, hb, hb1, hb2, rfl, hM⟩ := hrel
        by_cases hlt : ((b : Nat) : Int) < ((d : Nat) : Int)
        · have hab := hb1 (by omega)
          by_cases hgt : ((i : Nat) : Int) < ((a : Nat) : Int)
          · skip
            refine wp_seq_k fun _ κ4 => wp_seq_k fun _ κ5 => wl_region (wl_fare kn ?_)
            simp (disch := omega) only [fx, pv, kx, (hM.get 0 rfl).cell 69 (.slice (some ⟨g, 0, none⟩) (d) (d)) (sn_v _ _ _ _ _)]
            refine wl_give rfl (g_len _ 113 23 ((some ⟨g, 0, none⟩)) (d) (d) (((d : Nat) : Int)) Tryz.underlying113 rfl (rfl) ?_)
            refine wl_fare kn ?_
            simp (disch := omega) only [fx, pv, kx]
            refine wl_nil (κ5 _ _ ?_)
            refine wp_cond_true rfl (wp_skip ?_)
            refine κ4 _ _ (wp_seq_k fun _ κ6 => ?_)
            refine wp_block (wp_seq_k fun _ κ7 => ?_)
            refine wp_seq_k fun _ κ8 => wl_region (wl_fare kn ?_)
            simp (disch := omega) only [fx, pv, kx, (hM.get 0 rfl).cell 68 (.pointer (some ⟨q, 0, none⟩)) (sn_q _ _ _ _ _)]
            refine wl_give rfl (g_cM hM (kf72 _ _) (wat_any (show Ms w0 wr (wk q n L (a) m :: blk (p) (snc (s) (P) (k) (.pointer (some ⟨q, 0, none⟩)) (.slice (some ⟨g, 0, none⟩) (d) (d))) 115 :: blk (g) (kcs (ks)) 23 :: R) from (hM.up 1 rfl))) rfl fun w9 hM => wl_fare kn ?_)
            simp (disch := omega) only [fx, pv, kx]
            refine wl_nil (κ8 _ _ ?_)
            refine wp_cond_true rfl ?_
            refine wp_exit ?_
            (try simp only [Exit.inBlock, Exit.then, Exit.noGoto])
            refine (show _ ∧ ∃ v, _ ∧ _ from ⟨rfl, _, results_none rfl _ _ _, rfl, ?_⟩)
            have e : max a00 (i + 1) = a := by omega
            exact e ▸ sv_mk (hL ▸ hM) (hL ▸ hmi)
          · skip
            obtain ⟨K, hK0⟩ : ∃ K, wl (n - a) L = K := ⟨_, rfl⟩
            have hK : Shut (nx n L a = ((K, 0), a + 1)) := ⟨by unfold nx; rw [if_pos (by omega), hK0]⟩
            have hnx := hmi.next hd0
            rw [hK0, hab] at hnx
            have hbl : b < ks.length := by rw [hmi.len]; omega
            have hfit : 0 + b * 32 + (kc K).length ≤ (kcs ks).length := by rw [kc_length, kcs_length]; omega
            have hbd : b < d := by omega
            have hs : Shut (IntKind.i64.wrap (((b : Nat) : Int) + 1) = ((b + 1 : Nat) : Int)) := ⟨by rw [wrap_id _ (by omega) (by omega)]; omega⟩
            clear hK0
            refine wp_seq_k fun _ κ10 => wp_seq_k fun _ κ11 => wl_region (wl_fare kn ?_)
            simp (disch := omega) only [fx, pv, kx, (hM.get 0 rfl).cell 69 (.slice (some ⟨g, 0, none⟩) (d) (d)) (sn_v _ _ _ _ _)]
            refine wl_give rfl (g_len _ 113 23 ((some ⟨g, 0, none⟩)) (d) (d) (((d : Nat) : Int)) Tryz.underlying113 rfl (rfl) ?_)
            refine wl_fare kn ?_
            simp (disch := omega) only [fx, pv, kx]
            refine wl_nil (κ11 _ _ ?_)
            refine wp_cond_true rfl (wp_skip ?_)
            refine κ10 _ _ (wp_seq_k fun _ κ12 => ?_)
            refine wp_block (wp_seq_k fun _ κ13 => ?_)
            refine wp_seq_k fun _ κ14 => wl_region (wl_fare kn ?_)
            simp (disch := omega) only [fx, pv, kx, (hM.get 0 rfl).cell 68 (.pointer (some ⟨q, 0, none⟩)) (sn_q _ _ _ _ _)]
            refine wl_give rfl (g_cM hM (kf72 _ _) (wat_any (show Ms w0 wr (wk q n L (a) m :: blk (p) (snc (s) (P) (k) (.pointer (some ⟨q, 0, none⟩)) (.slice (some ⟨g, 0, none⟩) (d) (d))) 115 :: blk (g) (kcs (ks)) 23 :: R) from (hM.up 1 rfl))) rfl fun w15 hM => wl_fare kn ?_)
            simp (disch := omega) only [fx, pv, kx]
            refine wl_nil (κ14 _ _ ?_)
            refine wp_cond_false rfl (wp_skip ?_)
            refine κ13 _ _ ?_
            refine wp_region_steps (by kernel_rfl) (by kernel_rfl) [9, 14] [0, 0, 0, 0, 0, 0, 0, 0, 0, 0, 1, 1, 1, 1, 1] [1, 1, 1, 1, 1, 1, 1, 1, 0, 1, 1, 1, 2, 1, 2] (by kernel_rfl) (Pm := Nat) (fun π => [.pointer (some ⟨p, 0, none⟩), .pointer (some ⟨p, 0, none⟩), .pointer (some ⟨p, 69, none⟩), .slice (some ⟨g, 0, none⟩) (d) (d), .int .i64 (((b : Nat) : Int)), .pointer (some ⟨p, 0, none⟩), .pointer (some ⟨p, 0, none⟩), .pointer (some ⟨p, 68, none⟩), .pointer (some ⟨q, 0, none⟩), .tuple #[.agg (kc (K)).toArray, .int .i64 (0)], .tuple #[.agg (kc (K)).toArray, .int .i64 (0)], .agg (kc (K)).toArray, .int .i64 (0), .pointer (some ⟨g, 0 + b * 32, none⟩), undef]) (fun _ => by rfl) (fun j_ π wx => match j_ with | 0 => Ms w0 wx (blk (p) (snc (s) (P) (k) (.pointer (some ⟨q, 0, none⟩)) (.slice (some ⟨g, 0, none⟩) (d) (d))) 115 :: wk q n L (a) m :: blk (g) (kcs (ks)) 23 :: R) | 1 => Ms w0 wx (wk q n L (a + 1) π :: blk (p) (snc (s) (P) (k) (.pointer (some ⟨q, 0, none⟩)) (.slice (some ⟨g, 0, none⟩) (d) (d))) 115 :: blk (g) (kcs (ks)) 23 :: R) | _ => Ms w0 wx (wk q n L (a + 1) π :: blk (p) (snc (s) (P) (k) (.pointer (some ⟨q, 0, none⟩)) (.slice (some ⟨g, 0, none⟩) (d) (d))) 115 :: blk (g) (kcs ((ks).set (b) (K))) 23 :: R)) (0) hM.drew ?_ ?_ ?_
            · intro j_ k_ o_ hj_ ho_ π wx hM
              rcases j_ with _ | _ | j_
              · obtain rfl := Option.some.inj hj_
                cases so ho_
                simp only [fullL, Act.put, st_a, st_s, st_0]
                change Ms _ _ _ at hM
                exact gw rfl (g_call 73 _ _ [.pointer (some ⟨q, 0, none⟩)] (kf73 _ _) rfl ((pnext_any (show Ms w0 wx (wk q n L (a) m :: blk (p) (snc (s) (P) (k) (.pointer (some ⟨q, 0, none⟩)) (.slice (some ⟨g, 0, none⟩) (d) (d))) 115 :: blk (g) (kcs (ks)) 23 :: R) from (hM.up 1 rfl)) hT K 0 (a + 1) hK).mono (fun e w' ⟨g_0, h1_, h2_⟩ => ⟨_, h1_, ⟨(g_0), rfl, fun i h1 h2 => by rcases i with _ | _ | _ | _ | _ | _ | _ | _ | _ | _ | _ | _ | _ | _ | _ | i <;> first | rfl | trivial | exact absurd rfl h2 | exact absurd h1 (by decide), h2_⟩⟩)))
              · obtain rfl := Option.some.inj hj_
                cases so ho_
                simp only [fullL, Act.put, st_a, st_s, st_0]
                change Ms _ _ _ at hM
                exact gw rfl (g_storeN 23 _ _ (g) (0 + b * 32) (kc (K)) _ 23 (kcs ((ks).set (b) (K))) rfl rfl (hM.get 2 rfl) (szK _) (hfit) (one_kc _) (kcs_put _ _ _ (hbl)) (fun w' t_ b_ => ⟨(π), rfl, fun i h1 h2 => by rcases i with _ | _ | _ | _ | _ | _ | _ | _ | _ | _ | _ | _ | _ | _ | _ | i <;> first | rfl | trivial | exact absurd rfl h2 | exact absurd h1 (by decide), hM.put 2 rfl t_ b_⟩))
              · simp at hj_
            · intro i_ o_ ho_ hi_ j_ hd_ hh_ hj_ π wx hM
              simp only [fullL, Act.put, st_a, st_s, st_0]
              rcases i_ with _ | _ | _ | _ | _ | _ | _ | _ | _ | _ | _ | _ | _ | _ | _ | i_
              · cases so ho_
                exact gw rfl (g_move _ _ rfl ⟨rfl, hM⟩)
              · cases so ho_
                exact gw rfl (g_nil _ _ rfl ⟨rfl, hM⟩)
              · cases so ho_
                exact gw rfl (g_fa _ _ _ _ _ _ rfl (faSn4 _ _ _) ⟨rfl, hM⟩)
              · cases so ho_
                rcases j_ with _ | _ | _ | j_
                · change Ms _ _ _ at hM
                  exact gw rfl (g_ld1 113 _ (p) (69) _ rfl (ldKS _ _ _ _ ((hM.get 0 rfl).cell (69) _ (sn_v _ _ _ _ _))) ⟨rfl, hM⟩)
                · change Ms _ _ _ at hM
                  exact gw rfl (g_ld1 113 _ (p) (69) _ rfl (ldKS _ _ _ _ ((hM.get 1 rfl).cell (69) _ (sn_v _ _ _ _ _))) ⟨rfl, hM⟩)
                · exact absurd hh_ (by decide)
                · exact absurd hj_ (by simp)
              · cases so ho_
                exact gw rfl (g_move _ _ rfl ⟨rfl, hM⟩)
              · cases so ho_
                exact gw rfl (g_move _ _ rfl ⟨rfl, hM⟩)
              · cases so ho_
                exact gw rfl (g_nil _ _ rfl ⟨rfl, hM⟩)
              · cases so ho_
                exact gw rfl (g_fa _ _ _ _ _ _ rfl (faSn3 _ _ _) ⟨rfl, hM⟩)
              · cases so ho_
                rcases j_ with _ | _ | _ | j_
                · change Ms _ _ _ at hM
                  exact gw rfl (g_ld1 110 _ (p) (68) _ rfl (ldPW _ _ _ _ ((hM.get 0 rfl).cell (68) _ (sn_q _ _ _ _ _))) ⟨rfl, hM⟩)
                · exact absurd hh_ (by decide)
                · exact absurd hh_ (by decide)
                · exact absurd hj_ (by simp)
              · exact absurd (by decide) hi_
              · cases so ho_
                exact gw rfl (g_move _ _ rfl ⟨rfl, hM⟩)
              · cases so ho_
                exact gw rfl (g_extract _ _ _ _ rfl rfl ⟨rfl, hM⟩)
              · cases so ho_
                exact gw rfl (g_extract _ _ _ _ rfl rfl ⟨rfl, hM⟩)
              · cases so ho_
                exact gw rfl (g_ix _ _ 113 23 32 Tryz.underlying113 szof23 g 0 d d b (0 + b * 32) _ rfl rfl rfl hbd rfl ⟨rfl, hM⟩)
              · exact absurd (by decide) hi_
              · simp at ho_
            · simp only [fullL, Act.put, st_a, st_s, st_0]
              rintro p17 w16 hM
              replace hM : Ms w0 w16 (wk q n L (a + 1) p17 :: blk (p) (snc (s) (P) (k) (.pointer (some ⟨q, 0, none⟩)) (.slice (some ⟨g, 0, none⟩) (d) (d))) 115 :: blk (g) (kcs ((ks).set (b) (K))) 23 :: R) := hM
              refine κ12 _ _ (wl_region (wl_fare kn ?_))
              simp (disch := omega) only [fx, pv, kx, (hs.out : IntKind.i64.wrap ((((b : Nat) : Int)) + (1)) = ((b + 1 : Nat) : Int))]
              refine wl_nil ?_
              (try simp only [Exit.then, Exit.inBlock, ↓reduceIte, Nat.reduceEqDiff])
              go_roundw
              case rel =>
                refine ⟨a + 1, p17, b + 1, _, hnx, by omega, fun _ => by omega, by omega, by omega, by omega, fun hbd => ?_, fun _ => by omega, rfl, (((hM.up 2 rfl).up 1 rfl).up 2 rfl)⟩
                rw [Nat.add_mod, hab, Nat.mod_eq_of_lt (show 1 < d by omega), Nat.mod_eq_of_lt hbd]
              case measure => simp [intOf]; omega
        · have hbd : b = d := by omega
          have haa := hb2 hbd
          refine wp_seq_k fun _ κ18 => wp_seq_k fun _ κ19 => wl_region (wl_fare kn ?_)
          simp (disch := omega) only [fx, pv, kx, (hM.get 0 rfl).cell 69 (.slice (some ⟨g, 0, none⟩) (d) (d)) (sn_v _ _ _ _ _)]
          refine wl_give rfl (g_len _ 113 23 ((some ⟨g, 0, none⟩)) (d) (d) (((d : Nat) : Int)) Tryz.underlying113 rfl (rfl) ?_)
          refine wl_fare kn ?_
          simp (disch := omega) only [fx, pv, kx]
          refine wl_nil (κ19 _ _ ?_)
          refine wp_cond_false rfl ?_
          refine wp_exit ?_
          (try simp only [Exit.then, Exit.inBlock, ↓reduceIte, Nat.reduceEqDiff])
          go_roundw
          case rel => exact ⟨a, m, ks, hmi, by omega, by omega, h3, hM⟩
          case measure =>
            rw [wk_c0 (hM.up 1 rfl), hc0.out]
            simp [intOf]; omega
end Go.Proofs.YtcclcemdodoiiaaGreatDoor
