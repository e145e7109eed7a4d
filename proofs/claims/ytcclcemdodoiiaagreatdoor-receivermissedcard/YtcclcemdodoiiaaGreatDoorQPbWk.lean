/- Walkers in memory as a part of their own, and what the program's New, At, Left and Minds and the reference's Most answer. -/
import Derived.Test.YtcclcemdodoiiaaGreatDoorQPb1
import Derived.WalkKit
import Derived.WalkSpells
import Derived.WalkLawsBesides
namespace Go.Proofs.YtcclcemdodoiiaaGreatDoor
set_option maxRecDepth 10000
open Go Go.RowKit
set_option linter.unusedVariables false
set_option linter.unusedSimpArgs false

/-- The cells of the marks of these places, of a chain of n whose last key is L. -/
def fm (n : Nat) (L : Ky) (ms : List Nat) : List Value := ms.flatMap fun (p : Nat) => mk (p : Int) (wl (n - p) L)
theorem fm_length (n : Nat) (L : Ky) : ∀ ms : List Nat, (fm n L ms).length = ms.length * 33
  | [] => rfl
  | p :: ms => by
    have := fm_length n L ms
    rw [fm] at this
    rw [fm, List.flatMap_cons, List.length_append, this, mk_length, List.length_cons]; omega
theorem fm_snoc (n : Nat) (L : Ky) (ms : List Nat) (q : Nat) : fm n L (ms ++ [q]) = fm n L ms ++ mk (q : Int) (wl (n - q) L) := by simp [fm]
theorem fm_at (n : Nat) (L : Ky) : ∀ (ms : List Nat) (j p : Nat), ms[j]? = some p → ((fm n L ms).drop (j * 33)).take 33 = mk (p : Int) (wl (n - p) L)
  | [], j, p, h => by simp at h
  | q :: ms, 0, p, h => by
    obtain rfl : q = p := by simpa using h
    rw [fm, List.flatMap_cons, Nat.zero_mul, List.drop_zero, List.take_append_of_le_length (by rw [mk_length]; omega), List.take_of_length_le (by rw [mk_length]; omega)]
  | q :: ms, j + 1, p, h => by
    have ih := fm_at n L ms j p (by simpa using h)
    rw [fm, List.flatMap_cons, show (j + 1) * 33 = (mk (q : Int) (wl (n - q) L)).length + j * 33 by rw [mk_length]; omega, List.drop_append, List.drop_eq_nil_of_le (by omega), List.nil_append, Nat.add_sub_cancel_left]
    exact ih
theorem fm_take (n : Nat) (L : Ky) : ∀ (ms : List Nat) (c : Nat), (fm n L ms).take (c * 33) = fm n L (ms.take c)
  | [], c => by simp [fm]
  | q :: ms, 0 => by simp [fm]
  | q :: ms, c + 1 => by
    have ih := fm_take n L ms c
    rw [fm, List.flatMap_cons, show (c + 1) * 33 = (mk (q : Int) (wl (n - q) L)).length + c * 33 by rw [mk_length]; omega, List.take_length_add_append, List.take_succ_cons]
    rw [fm] at ih
    rw [ih]; simp [fm]
/-- A walker at p ahead of the key a of a chain of n, that minds m keys. -/
def wk (p n : Nat) (L : Ky) (a m : Nat) : HP :=
  ex fun x : Value × List Nat => [pu (Ok n a x.2 ∧ x.2.length = m), blk p (wc (a : Int) ((n : Int) + 1) x.1) 145, row 142 33 x.1 m (fm n L x.2)]
section
variable {w0 w : World} {R : List HP} {p n a m : Nat} {L : Ky}
theorem wk_mk {v : Value} {ms : List Nat} (h : Ms w0 w (blk p (wc (a : Int) ((n : Int) + 1) v) 145 :: row 142 33 v m (fm n L ms) :: R)) (hok : Ok n a ms) (hm : ms.length = m) : Ms w0 w (wk p n L a m :: R) :=
  Ms.shut (v, ms) (Ms.mkpu ⟨hok, hm⟩ h)
theorem wk_open (h : Ms w0 w (wk p n L a m :: R)) : ∃ v ms, Ok n a ms ∧ ms.length = m ∧ Ms w0 w (blk p (wc (a : Int) ((n : Int) + 1) v) 145 :: row 142 33 v m (fm n L ms) :: R) := by
  obtain ⟨⟨v, ms⟩, h⟩ := h.opn
  obtain ⟨⟨h1, h2⟩, h3⟩ := h.unpu
  exact ⟨v, ms, h1, h2, h3⟩
theorem wk_few (h : Ms w0 w (wk p n L a m :: R)) : 1 ≤ n ∧ n ≤ 1024 ∧ a ≤ n + 1 ∧ m ≤ mo n ∧ (a = n + 1 → m = 0) := by
  obtain ⟨v, ms, h1, rfl, _⟩ := wk_open h
  exact ⟨h1.one, h1.top, h1.at_, h1.few, fun e => by rw [h1.done e]; rfl⟩
end
theorem mo_le (n : Nat) (h : n ≤ 1024) : mo n ≤ 13 := by
  unfold mo
  by_cases h0 : n = 0
  · subst h0; decide
  · have := (Nat.log2_lt (n := n) (k := 11) h0).2 (by omega)
    omega
theorem g_bsMk {dst : Option Tmp} {ty : TypeId} {pos : String} {aft : Array Edge} {gd : Option (Nat × Bool)} {a : Act} {w : World} {K : Value → World → Prop} (y : Operand) (p : Int) (k : Ky) (hy : a.eval y = .agg (mk p k).toArray)
    (hk : ∀ w', Turn w.heap.size w w' → Blk w' w.heap.size (mk p k) 142 → K (.slice (some ⟨w.heap.size, 0, none⟩) 1 1) w') : gives Tryz.prog ⟨dst, .buildSlice 143 1 #[(0, y)], ty, pos, aft, gd⟩ a w K := by
  obtain ⟨h1, h2⟩ := turn_alloc w (mk p k) 142
  have hr := run_bs 143 142 33 (mk 0 zk) Tryz.underlying143 szof142 zeroMk (by decide) (by decide) w (mk p k) (mk_length p k)
  exact g_val _ _ (by simp only [execOp, List.map_toArray, List.map_cons, List.map_nil, hy, Sem.run_bind, hr, Result.andThen_ok, Sem.run_pure]) (hk _ h1 h2)
/-- A block below the base, read in a world behind it. -/
theorem Blk.on {w w' : World} {L : List HP} {b : Nat} {cs : List Value} {t : TypeId} (h : Blk w b cs t) (hM : Ms w w' L) : Blk w' b cs t := h.below hM.below h.lt
set_option maxHeartbeats 4000000 in
theorem at_blk (p : Nat) (a e : Int) (ao : Option Addr) (n cap : Nat) (w : World) (hp : Blk w p (wc a e (.slice ao n cap)) 145) : Calls Tryz.prog 72 #[.pointer (some ⟨p, 0, none⟩)] w fun e w' => e = .returned (.int .i64 a) ∧ Below w.heap.size w w' := by
  have hM := Ms.refl w
  go_enter Tryz.func72, Tryz.ntmps72
  refine wp_seq_k (fun K1 hK1 => ?_)
  refine wl_region ?_
  refine wl_give rfl (g_assign _ (.int .i64 (0)) rfl ?_)
  (try simp only [Act.put, st_a, st_0, st_s])
  refine wl_nil ?_
  refine hK1 _ _ ?_
  (try clear hK1 K1)
  refine wp_seq_k (fun K2 hK2 => ?_)
  refine wl_region ?_
  refine wl_give rfl (g_move _ (.pointer (some ⟨p, 0, none⟩)) rfl ?_)
  (try simp only [Act.put, st_a, st_0, st_s])
  refine wl_give rfl (g_nil _ ⟨p, 0, none⟩ rfl ?_)
  (try simp only [Act.put, st_a, st_0, st_s])
  refine wl_give rfl (g_fa 145 _ (p) (0) (0) 0 rfl (faW0 _ _) ?_)
  (try simp only [Act.put, st_a, st_0, st_s])
  refine wl_give rfl (g_ld1 3 _ (p) 0 _ rfl (ld3 _ _ _ _ ((hp.on hM).cell 0 _ rfl)) ?_)
  (try simp only [Act.put, st_a, st_0, st_s])
  refine wl_give rfl (g_assign _ (.int .i64 (a)) rfl ?_)
  (try simp only [Act.put, st_a, st_0, st_s])
  refine wl_nil ?_
  refine hK2 _ _ ?_
  (try clear hK2 K2)
  refine wp_ret ?_
  go_ret
  exact ⟨rfl, hM.below⟩
set_option maxHeartbeats 4000000 in
theorem left_blk (p : Nat) (a e : Int) (ao : Option Addr) (n cap : Nat) (d : Int) (hd : Shut (IntKind.i64.wrap (e - a) = d)) (w : World) (hp : Blk w p (wc a e (.slice ao n cap)) 145) : Calls Tryz.prog 98 #[.pointer (some ⟨p, 0, none⟩)] w fun e w' => e = .returned (.int .i64 d) ∧ Below w.heap.size w w' := by
  have hM := Ms.refl w
  go_enter Tryz.func98, Tryz.ntmps98
  refine wp_seq_k (fun K1 hK1 => ?_)
  refine wl_region ?_
  refine wl_give rfl (g_assign _ (.int .i64 (0)) rfl ?_)
  (try simp only [Act.put, st_a, st_0, st_s])
  refine wl_nil ?_
  refine hK1 _ _ ?_
  (try clear hK1 K1)
  refine wp_seq_k (fun K2 hK2 => ?_)
  refine wp_region_fixed (by kernel_rfl) (by kernel_rfl) [.pointer (some ⟨p, 0, none⟩), .pointer (some ⟨p, 0, none⟩), .pointer (some ⟨p, 1, none⟩), .int .i64 (e), .pointer (some ⟨p, 0, none⟩), .pointer (some ⟨p, 0, none⟩), .pointer (some ⟨p, 0, none⟩), .int .i64 (a), .int .i64 (d), .int .i64 (d)] (by rfl) (fun wx => Ms w wx []) hM.drew ?_ ?_
  · simp only [fullL, Act.put, st_a, st_s, st_0]
    refine ⟨?_, ?_, ?_, ?_, ?_, ?_, ?_, ?_, ?_, ?_, trivial⟩
    · exact fun wx hM => gw rfl (g_move _ (.pointer (some ⟨p, 0, none⟩)) rfl ⟨rfl, hM⟩)
    · exact fun wx hM => gw rfl (g_nil _ ⟨p, 0, none⟩ rfl ⟨rfl, hM⟩)
    · exact fun wx hM => gw rfl (g_fa 145 _ (p) (0) (1) 1 rfl (faW1 _ _) ⟨rfl, hM⟩)
    · exact fun wx hM => gw rfl (g_ld1 3 _ (p) 1 _ rfl (ld3 _ _ _ _ ((hp.on hM).cell 1 _ rfl)) ⟨rfl, hM⟩)
    · exact fun wx hM => gw rfl (g_move _ (.pointer (some ⟨p, 0, none⟩)) rfl ⟨rfl, hM⟩)
    · exact fun wx hM => gw rfl (g_nil _ ⟨p, 0, none⟩ rfl ⟨rfl, hM⟩)
    · exact fun wx hM => gw rfl (g_fa 145 _ (p) (0) (0) 0 rfl (faW0 _ _) ⟨rfl, hM⟩)
    · exact fun wx hM => gw rfl (g_ld1 3 _ (p) 0 _ rfl (ld3 _ _ _ _ ((hp.on hM).cell 0 _ rfl)) ⟨rfl, hM⟩)
    · exact fun wx hM => gw rfl (g_isub 3 _ _ .i64 (e) (a) (d) rfl rfl hd.out ⟨rfl, hM⟩)
    · exact fun wx hM => gw rfl (g_assign _ (.int .i64 (d)) rfl ⟨rfl, hM⟩)
  · simp only [fullL, Act.put, st_a, st_s, st_0]
    intro w3 hM
    refine hK2 _ _ ?_
    (try clear hK2 K2)
    refine wp_ret ?_
    go_ret
    exact ⟨rfl, hM.below⟩
section
variable {w0 w : World} {R : List HP} {p n a m : Nat} {L : Ky}
theorem wk_blk (hM : Ms w0 w (wk p n L a m :: R)) : ∃ ao cap, Blk w p (wc (a : Int) ((n : Int) + 1) (.slice ao m cap)) 145 := by
  obtain ⟨v, ms, h1, h2, h3⟩ := wk_open hM
  obtain ⟨ao, cap, rfl, _⟩ := row_slice (h3.up 1 rfl)
  exact ⟨ao, cap, h3.get 0 rfl⟩
theorem wat_any (hM : Ms w0 w (wk p n L a m :: R)) : Calls Tryz.prog 72 #[.pointer (some ⟨p, 0, none⟩)] w fun e w' => e = .returned (.int .i64 ((a : Nat) : Int)) ∧ Below w.heap.size w w' := by
  obtain ⟨ao, cap, hb⟩ := wk_blk hM
  exact at_blk p a _ ao m cap w hb
theorem wleft_any (hM : Ms w0 w (wk p n L a m :: R)) (d : Int) (hd : Shut ((n : Int) + 1 - a = d)) : Calls Tryz.prog 98 #[.pointer (some ⟨p, 0, none⟩)] w fun e w' => e = .returned (.int .i64 d) ∧ Below w.heap.size w w' := by
  obtain ⟨ao, cap, hb⟩ := wk_blk hM
  obtain ⟨_, h1, h2, _⟩ := wk_few hM
  exact left_blk p a _ ao m cap d ⟨by rw [wrap_id _ (by omega) (by omega)]; exact hd.out⟩ w hb
end
set_option maxHeartbeats 4000000 in
theorem wnew_any (s : Ky) (n : Nat) (L : Ky) (w0 w : World) (R : List HP) (hM : Ms w0 w R) (hT : Tabs w0) (h1 : 1 ≤ n) (h2 : n ≤ 1024) (hL : Shut (tg s ⟨#[99, 104, 97, 105, 110]⟩ = L)) : Calls Tryz.prog 49 #[.agg (kc s).toArray, .int .i64 ((n : Nat) : Int)] w fun e w' => ∃ p, e = .returned (.tuple #[.pointer (some ⟨p, 0, none⟩), .int .i64 0]) ∧ Ms w0 w' (wk p n L 0 1 :: R) := by
  have he : Shut (IntKind.i64.wrap ((n : Int) + 1) = (n : Int) + 1) := ⟨wrap_id _ (by omega) (by omega)⟩
  go_enter Tryz.func49, Tryz.ntmps49
  refine wp_seq_k (fun K1 hK1 => ?_)
  refine wl_region ?_
  refine wl_give rfl (g_box 23 _ (kc (s)) rfl ?_)
  intro w2 t_ b_
  replace hM : Ms w0 w2 (blk (w.heap.size) (kc (s)) 23 :: R) := hM.new t_ b_
  clear t_ b_
  (try simp only [Act.put, st_a, st_0, st_s])
  refine wl_give rfl (g_assign _ (.pointer none) rfl ?_)
  (try simp only [Act.put, st_a, st_0, st_s])
  refine wl_give rfl (g_assign _ (.int .i64 (0)) rfl ?_)
  (try simp only [Act.put, st_a, st_0, st_s])
  refine wl_nil ?_
  refine hK1 _ _ ?_
  (try clear hK1 K1)
  refine wp_seq_k (fun K3 hK3 => ?_)
  refine wp_seq_k (fun K4 hK4 => ?_)
  refine wl_region ?_
  refine wl_give rfl (g_move _ (.int .i64 (((n : Nat) : Int))) rfl ?_)
  (try simp only [Act.put, st_a, st_0, st_s])
  refine wl_give rfl (g_ilss 3 _ _ .i64 (((n : Nat) : Int)) (1) false rfl rfl (decide_eq_false (by omega)) ?_)
  (try simp only [Act.put, st_a, st_0, st_s])
  refine wl_give rfl (g_move _ (.bool false) rfl ?_)
  (try simp only [Act.put, st_a, st_0, st_s])
  refine wl_give rfl (g_move _ (.int .i64 (((n : Nat) : Int))) rfl ?_)
  (try simp only [Act.put, st_a, st_0, st_s])
  refine wl_give rfl (g_igtr 3 _ _ .i64 (((n : Nat) : Int)) (1024) false rfl rfl (decide_eq_false (by omega)) ?_)
  (try simp only [Act.put, st_a, st_0, st_s])
  refine wl_give rfl (g_pickf _ _ _ (.bool false) rfl rfl ?_)
  (try simp only [Act.put, st_a, st_0, st_s])
  refine wl_nil ?_
  refine hK4 _ _ ?_
  (try clear hK4 K4)
  refine wp_cond_false rfl ?_
  refine wp_skip ?_
  refine hK3 _ _ ?_
  (try clear hK3 K3)
  refine wp_seq_k (fun K5 hK5 => ?_)
  refine wl_region ?_
  refine wl_give rfl (g_move _ (.int .i64 (((n : Nat) : Int))) rfl ?_)
  (try simp only [Act.put, st_a, st_0, st_s])
  refine wl_give rfl (g_load_all 23 _ (w.heap.size) (kc (s)) 23 _ rfl (hM.get 0 rfl) Tryz.underlying23 rfl (szK _) ?_)
  (try simp only [Act.put, st_a, st_0, st_s])
  refine wl_give rfl (g_call 71 _ _ [.agg (kc (s)).toArray, .string (⟨#[99, 104, 97, 105, 110]⟩)] (kf71 _ _) rfl ((mof_any s L ⟨#[99, 104, 97, 105, 110]⟩ w2 (hM.tabs hT) (by decide) hL).mono ?_))
  rintro e w6 ⟨rfl, t_⟩
  refine ⟨_, rfl, ?_⟩
  replace hM := hM.call t_
  clear t_
  (try simp only [Act.put, st_a, st_0, st_s])
  refine wl_give rfl (g_bldMk _ _ (((n : Nat) : Int)) (L) rfl rfl ?_)
  (try simp only [Act.put, st_a, st_0, st_s])
  refine wl_give rfl (g_alloc 142 (mk (0) (zk)) zeroMk ?_)
  intro w7 t_ b_
  replace hM : Ms w0 w7 (blk (w6.heap.size) (mk (0) (zk)) 142 :: blk (w.heap.size) (kc (s)) 23 :: R) := hM.new t_ b_
  clear t_ b_
  (try simp only [Act.put, st_a, st_0, st_s])
  refine wl_give rfl (g_store_all 142 _ _ (w6.heap.size) (mk (((n : Nat) : Int)) (L)) _ 142 rfl rfl (hM.get 0 rfl) (szMk _ _) (mm_len _ _ _ _) (one_mk _ _) ?_)
  intro w8 t_ b_
  replace hM : Ms w0 w8 (blk (w6.heap.size) (mk (((n : Nat) : Int)) (L)) 142 :: blk (w.heap.size) (kc (s)) 23 :: R) := hM.put 0 rfl t_ b_
  clear t_ b_
  (try simp only [Act.put, st_a, st_0, st_s])
  refine wl_nil ?_
  refine hK5 _ _ ?_
  (try clear hK5 K5)
  refine wp_seq_k (fun K9 hK9 => ?_)
  refine wl_region ?_
  refine wl_give rfl (g_move _ (.int .i64 (((n : Nat) : Int))) rfl ?_)
  (try simp only [Act.put, st_a, st_0, st_s])
  refine wl_give rfl (g_ia 3 _ _ .i64 ((n : Int)) (1) ((n : Int) + 1) rfl rfl he.out ?_)
  (try simp only [Act.put, st_a, st_0, st_s])
  refine wl_give rfl (g_load_all 142 _ (w6.heap.size) (mk (((n : Nat) : Int)) (L)) 142 _ rfl (hM.get 0 rfl) Tryz.underlying142 rfl (szMk _ _) ?_)
  (try simp only [Act.put, st_a, st_0, st_s])
  refine wl_give rfl (g_bsMk _ (((n : Nat) : Int)) (L) rfl ?_)
  intro w10 t_ b_
  replace hM : Ms w0 w10 (blk (w8.heap.size) (mk (((n : Nat) : Int)) (L)) 142 :: blk (w6.heap.size) (mk (((n : Nat) : Int)) (L)) 142 :: blk (w.heap.size) (kc (s)) 23 :: R) := hM.new t_ b_
  clear t_ b_
  (try simp only [Act.put, st_a, st_0, st_s])
  refine wl_give rfl (g_bldW _ _ ((n : Int) + 1) (.slice (some ⟨w8.heap.size, 0, none⟩) (1) (1)) ((some ⟨w8.heap.size, 0, none⟩)) (1) (1) rfl rfl rfl ?_)
  (try simp only [Act.put, st_a, st_0, st_s])
  refine wl_give rfl (g_box 145 _ (wc (0) ((n : Int) + 1) (.slice (some ⟨w8.heap.size, 0, none⟩) (1) (1))) rfl ?_)
  intro w11 t_ b_
  replace hM : Ms w0 w11 (blk (w10.heap.size) (wc (0) ((n : Int) + 1) (.slice (some ⟨w8.heap.size, 0, none⟩) (1) (1))) 145 :: blk (w8.heap.size) (mk (((n : Nat) : Int)) (L)) 142 :: blk (w6.heap.size) (mk (((n : Nat) : Int)) (L)) 142 :: blk (w.heap.size) (kc (s)) 23 :: R) := hM.new t_ b_
  clear t_ b_
  (try simp only [Act.put, st_a, st_0, st_s])
  refine wl_give rfl (g_assign _ (.pointer (some ⟨w10.heap.size, 0, none⟩)) rfl ?_)
  (try simp only [Act.put, st_a, st_0, st_s])
  refine wl_give rfl (g_assign _ (.int .i64 (0)) rfl ?_)
  (try simp only [Act.put, st_a, st_0, st_s])
  refine wl_nil ?_
  refine hK9 _ _ ?_
  (try clear hK9 K9)
  refine wp_ret ?_
  go_ret2
  refine ⟨w10.heap.size, rfl, ?_⟩
  replace hM : Ms w0 w11 (blk (w10.heap.size) (wc (0) ((n : Int) + 1) (.slice (some ⟨w8.heap.size, 0, none⟩) (1) (1))) 145 :: blk (w8.heap.size) (mk (((n : Nat) : Int)) (L)) 142 :: R) := ((hM.erase 2).erase 2)
  have h8 : Ms w0 w11 (row 142 33 (.slice (some ⟨w8.heap.size, 0, none⟩) 1 1) 1 (fm n L [n]) :: blk (w10.heap.size) (wc (0) ((n : Int) + 1) (.slice (some ⟨w8.heap.size, 0, none⟩) (1) (1))) 145 :: R) := row_mk (hM.up 1 rfl) (by rw [fm_length]; rfl) (Nat.le_refl _) (by decide) (by rw [mk_length]; decide) (by rw [List.take_of_length_le (by rw [mk_length]; decide)]; simp [fm, wl_zero])
  exact wk_mk (h8.up 1 rfl) (ok_new n h1 h2) rfl
end Go.Proofs.YtcclcemdodoiiaaGreatDoor
