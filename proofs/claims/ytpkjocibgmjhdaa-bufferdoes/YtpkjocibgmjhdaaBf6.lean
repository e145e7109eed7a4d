/- What Size and Drop answer: loops over a map, in whatever order it is gone through. -/
import Derived.Test.YtpkjocibgmjhdaaBf5
namespace Go.Proofs.Ytpkjocibgmjhdaa
set_option maxRecDepth 10000
open Go Go.RowKit
set_option linter.unusedVariables false
set_option linter.unusedSimpArgs false

section
variable {P : Program} {Q : Exit → Act → World → Prop} {a : Act} {w : World}
/-- A loop of so many rounds at most, among plain statements. -/
theorem wp_rounds {c : Code} (I : Nat → Act → World → Prop) (n : Nat) (h0 : I n a w) (h : ∀ n a w, I n a w → c.wp P (Exit.then (fun a' w' => ∃ m, m < n ∧ I m a' w') Q) a w) : (Code.loop c).wp P Q a w := by
  have least : ∀ n a w, I n a w → ∃ m, I m a w ∧ ∀ m', I m' a w → m ≤ m' := by
    intro n
    induction n using Nat.strongRecOn with
    | _ n ih =>
      intro a w hn
      by_cases hx : ∃ m, m < n ∧ I m a w
      · obtain ⟨m, h1, h2⟩ := hx
        exact ih m h1 a w h2
      · exact ⟨n, hn, fun m' hm => Nat.le_of_not_lt fun hl => hx ⟨m', hl, hm⟩⟩
  have key : ∀ a w, ∃ μ : Nat, (∃ n, I n a w) → I μ a w ∧ ∀ m', I m' a w → μ ≤ m' := fun a w => by
    by_cases hx : ∃ n, I n a w
    · obtain ⟨n, hn⟩ := hx
      obtain ⟨m, h1, h2⟩ := least n a w hn
      exact ⟨m, fun _ => ⟨h1, h2⟩⟩
    · exact ⟨0, fun h => absurd h hx⟩
  have hμ : ∃ μ : Act → World → Nat, ∀ a w, (∃ n, I n a w) → I (μ a w) a w ∧ ∀ m', I m' a w → μ a w ≤ m' :=
    ⟨fun a w => Classical.choose (key a w), fun a w => Classical.choose_spec (key a w)⟩
  obtain ⟨μ, hμ⟩ := hμ
  refine wp_loop (fun a w => ∃ n, I n a w) μ ⟨n, h0⟩ fun a w hI => ?_
  refine wp_mono (h _ a w (hμ a w hI).1) fun e a' w' hq => ?_
  cases e with
  | normal =>
    obtain ⟨m, h1, h2⟩ := hq
    exact ⟨⟨m, h2⟩, Nat.lt_of_le_of_lt ((hμ a' w' ⟨m, h2⟩).2 m h2) h1⟩
  | _ => exact hq
end
section
variable {w0 w : World} {L : List HP}
theorem ch_mem {c cap : Nat} {vs : List Value} (h : Ms w0 w L) (hm : ch c cap vs ∈ L) : Chn w c cap vs := by
  obtain ⟨A, B, rfl⟩ := List.append_of_mem hm
  exact ch_get (h.perm List.perm_middle)
theorem star_sub {A B : List HP} (h : B.Sublist A) : ∀ {F : Nat → Prop} {w : World}, Star A F w → ∃ F', (∀ k, F' k → F k) ∧ Star B F' w := by
  induction h with
  | slnil => exact fun h => ⟨_, fun _ h => h, h⟩
  | cons x _ ih =>
    rintro F w ⟨F1, F2, h1, h2, h3, h4⟩
    obtain ⟨F', h5, h6⟩ := ih h2
    exact ⟨F', fun k hk => (h3 k).2 (.inr (h5 k hk)), h6⟩
  | cons_cons x _ ih =>
    rintro F w ⟨F1, F2, h1, h2, h3, h4⟩
    obtain ⟨F', h5, h6⟩ := ih h2
    exact ⟨fun k => F1 k ∨ F' k, fun k hk => (h3 k).2 (hk.imp id (h5 k)), F1, F', h1, h6, fun k => Iff.rfl, fun k a b => h4 k a (h5 k b)⟩
theorem Ms.sub {A B : List HP} (hs : B.Sublist A) (h : Ms w0 w A) : Ms w0 w B := by
  obtain ⟨F, h1, h2⟩ := h.mem
  obtain ⟨F', h3, h4⟩ := star_sub hs h1
  exact ⟨h.below, F', h4, fun k hk => h2 k (h3 k hk)⟩
end
theorem chs_mem {each : Nat} {L : List Thg} {E : List (Int × Nat)} {i : Int} {c : Nat} (h : (i, c) ∈ E) : ch c each ((ofI i L).map Value.string) ∈ chs each L E := List.mem_map.2 ⟨(i, c), h, rfl⟩
theorem g_lenQ {w : World} {a : Act} {K : Value → World → Prop} {dst : Option Tmp} {ty : TypeId} {pos : String} {aft : Array Edge} {gd : Option (Nat × Bool)} {c cap : Nat} {vs : List Value} (x : Operand) (r : Int) (hx : a.eval x = .chan (some c)) (hM : Chn w c cap vs) (hr : ((vs.length : Nat) : Int) = r) (hk : K (.int .i64 r) w) : gives Try.prog ⟨dst, .call { callee := .builtin .len, args := #[x], argTypes := #[61] }, ty, pos, aft, gd⟩ a w K := by
  obtain ⟨s, q, hc⟩ := hM
  refine g_val (.int .i64 r) w ?_ hk
  subst hr
  simp [execOp, resolve, invoke, builtin, hx, Builtin.len_, run_underlying Try.underlying61, run_getObj_chan _ _ hc, Result.andThen, goInt]
section
variable {L : List Thg}
theorem mdel_perm {l : List (Int × Value)} {y : Int × Value} (hn : (l.map (·.1)).Nodup) (hy : y ∈ l) : (l.map (·.1)).Perm (y.1 :: (mdel l y.1).map (·.1)) := by
  induction l with
  | nil => cases hy
  | cons q l ih =>
    simp only [List.map_cons, List.nodup_cons] at hn
    by_cases hq : q.1 = y.1
    · have h1 : mdel (q :: l) y.1 = l := by
        have := mdel_none (es := l) (x := y.1) (by rw [← hq]; exact hn.1)
        unfold mdel at *
        simp [hq, this]
      rw [h1, List.map_cons, hq]
    · have hyl : y ∈ l := by
        rcases List.mem_cons.1 hy with e | h
        · exact absurd (by rw [e]) hq
        · exact h
      have h1 : mdel (q :: l) y.1 = q :: mdel l y.1 := by unfold mdel; simp [hq]
      rw [h1, List.map_cons, List.map_cons]
      exact ((ih hn.2 hyl).cons q.1).trans (List.Perm.swap _ _ _)
theorem cnt_mdel {l : List (Int × Value)} {y : Int × Value} (hn : (l.map (·.1)).Nodup) (hy : y ∈ l) : cnt (l.map (·.1)) L = (ofI y.1 L).length + cnt ((mdel l y.1).map (·.1)) L := by
  rw [cnt_perm (mdel_perm hn hy), cnt_cons]
theorem mdel_sub {κ : Type} [DecidableEq κ] {l : List (κ × Value)} {k : κ} : ∀ z ∈ mdel l k, z ∈ l := fun z hz => (List.mem_filter.1 hz).1
theorem mdel_length {l : List (Int × Value)} {y : Int × Value} (hy : y ∈ l) : (mdel l y.1).length < l.length := by
  unfold mdel
  refine Nat.lt_of_le_of_ne (List.length_filter_le _ _) fun e => ?_
  have := List.filter_eq_self.1 (List.Sublist.eq_of_length List.filter_sublist e) y hy
  simp at this
theorem mdel_twice {κ : Type} [DecidableEq κ] (l : List (κ × Value)) (k : κ) : mdel (mdel l k) k = mdel l k := by
  unfold mdel; rw [List.filter_filter]; congr 1; funext p; rw [Bool.and_self]
/-- Those below b that are gone through already are let go. -/
def kept (b : Int) (es left : List (Int × Value)) : List (Int × Value) := es.filter (fun z => !decide (z.1 < b) || left.any (fun q => decide (q.1 = z.1)))
theorem kept_all (b : Int) (es : List (Int × Value)) : kept b es es = es := by
  unfold kept
  refine List.filter_eq_self.2 fun z hz => ?_
  rw [Bool.or_eq_true]
  exact .inr (List.any_eq_true.2 ⟨z, hz, by simp⟩)
theorem kept_nil (b : Int) (es : List (Int × Value)) : kept b es [] = es.filter (fun z => !decide (z.1 < b)) := by unfold kept; simp
theorem any_mdel (l : List (Int × Value)) (k z : Int) : (mdel l k).any (fun q => decide (q.1 = z)) = (!decide (z = k) && l.any (fun q => decide (q.1 = z))) := by
  rw [Bool.eq_iff_iff]
  simp only [List.any_eq_true, mdel, List.mem_filter, Bool.and_eq_true, Bool.not_eq_true', decide_eq_false_iff_not, decide_eq_true_eq]
  constructor
  · rintro ⟨q, ⟨h1, h2⟩, rfl⟩; exact ⟨h2, q, h1, rfl⟩
  · rintro ⟨h1, q, h2, rfl⟩; exact ⟨q, ⟨h2, h1⟩, rfl⟩
theorem kept_lt {b k : Int} (h : k < b) (es left : List (Int × Value)) : mdel (kept b es left) k = kept b es (mdel left k) := by
  unfold kept
  conv => lhs; unfold mdel
  rw [List.filter_filter]
  refine List.filter_congr fun z _ => ?_
  rw [any_mdel]
  by_cases hz : z.1 = k
  · simp [hz, h]
  · simp [hz]
theorem kept_ge {b k : Int} (h : ¬ k < b) (es left : List (Int × Value)) : kept b es left = kept b es (mdel left k) := by
  unfold kept
  refine List.filter_congr fun z _ => ?_
  rw [any_mdel]
  by_cases hz : z.1 = k
  · simp [hz, h]
  · simp [hz]
/-- How many there are of those keys below b that are still to come. -/
def cntB (b : Int) (l : List (Int × Value)) (L : List Thg) : Nat := cnt ((l.map (·.1)).filter (fun i => decide (i < b))) L
theorem cntB_lt {b : Int} {l : List (Int × Value)} {y : Int × Value} (hn : (l.map (·.1)).Nodup) (hy : y ∈ l) (h : y.1 < b) : cntB b l L = (ofI y.1 L).length + cntB b (mdel l y.1) L := by
  unfold cntB
  rw [cnt_perm ((mdel_perm hn hy).filter _), List.filter_cons_of_pos (by simpa using h), cnt_cons]
theorem cntB_ge {b : Int} {l : List (Int × Value)} {y : Int × Value} (hn : (l.map (·.1)).Nodup) (hy : y ∈ l) (h : ¬ y.1 < b) : cntB b l L = cntB b (mdel l y.1) L := by
  unfold cntB
  rw [cnt_perm ((mdel_perm hn hy).filter _), List.filter_cons_of_neg (by simpa using h)]
end
set_option maxHeartbeats 4000000 in
theorem size_bo {w0 w : World} {R : List HP} {p m x : Nat} {y d : Int} {L : List Thg} {E : List (Int × Nat)} (hM : Ms w0 w (blk (p) ([.int .i64 (((x : Nat) : Int)), .int .i64 (y), .map (some m), .int .i64 (d)]) 60 :: mp kI m (E.map mv) :: (chs x L E ++ R))) (hB : Bu x E L) (hL : L.length ≤ 1000000) : Calls Try.prog 23 #[.pointer (some ⟨p, 0, none⟩)] w fun e w' => e = .returned (.int .i64 ((L.length : Nat) : Int)) ∧ Ms w0 w' (blk (p) ([.int .i64 (((x : Nat) : Int)), .int .i64 (y), .map (some m), .int .i64 (d)]) 60 :: mp kI m (E.map mv) :: (chs x L E ++ R)) := by
  have hkeys : ((E.map mv).map (·.1)).Nodup := by rw [List.map_map]; exact hB.keys
  have hall : 0 + cnt ((E.map mv).map (·.1)) L = L.length := by rw [Nat.zero_add, List.map_map]; exact cnt_all hB.keys (fun t ht => (hB.dom t.1).2 ⟨t, ht, rfl⟩)
  go_enter Try.func23, Try.ntmps23
  refine wp_seq_k (fun K1 hK1 => ?_)
  refine wl_region ?_
  refine wl_give rfl (g_assign _ (.int .i64 (0)) rfl ?_)
  (try simp only [Act.put, List.setIfInBounds_toArray, List.set_cons_zero, List.set_cons_succ])
  refine wl_nil ?_
  refine hK1 _ _ ?_
  (try clear hK1 K1)
  refine wp_seq_k (fun K2 hK2 => ?_)
  refine wl_region ?_
  refine wl_give rfl (g_assign _ (.int .i64 (0)) rfl ?_)
  (try simp only [Act.put, List.setIfInBounds_toArray, List.set_cons_zero, List.set_cons_succ])
  refine wl_nil ?_
  refine hK2 _ _ ?_
  (try clear hK2 K2)
  refine wp_seq_k (fun K3 hK3 => ?_)
  refine wp_seq_k (fun K4 hK4 => ?_)
  refine wl_region ?_
  refine wl_give rfl (g_move _ (.pointer (some ⟨p, 0, none⟩)) rfl ?_)
  (try simp only [Act.put, List.setIfInBounds_toArray, List.set_cons_zero, List.set_cons_succ])
  refine wl_give rfl (g_nil _ ⟨p, 0, none⟩ rfl ?_)
  (try simp only [Act.put, List.setIfInBounds_toArray, List.set_cons_zero, List.set_cons_succ])
  refine wl_give rfl (g_fa 60 _ (p) (0) (2) 2 rfl (fa60_2 _ _ _) ?_)
  (try simp only [Act.put, List.setIfInBounds_toArray, List.set_cons_zero, List.set_cons_succ])
  refine wl_give rfl (g_ld1 58 _ (p) 2 _ rfl (ld58 _ _ _ _ ((hM.get 0 rfl).cell 2 _ rfl)) ?_)
  (try simp only [Act.put, List.setIfInBounds_toArray, List.set_cons_zero, List.set_cons_succ])
  refine wl_give rfl (g_range Try.underlying58 _ rfl (show Ms w0 w (mp kI m (E.map mv) :: blk (p) ([.int .i64 (((x : Nat) : Int)), .int .i64 (y), .map (some m), .int .i64 (d)]) 60 :: (chs x L E ++ R)) from (hM.up 1 rfl)) ?_)
  intro w5 h_
  replace hM : Ms w0 w5 (rg kI m (w.heap.size) (E.map mv) (E.map mv) (none) :: blk (p) ([.int .i64 (((x : Nat) : Int)), .int .i64 (y), .map (some m), .int .i64 (d)]) 60 :: (chs x L E ++ R)) := h_
  clear h_
  (try simp only [Act.put, List.setIfInBounds_toArray, List.set_cons_zero, List.set_cons_succ])
  refine wl_nil ?_
  refine hK4 _ _ ?_
  (try clear hK4 K4)
  refine wp_block ?_
  refine wp_rounds (fun n a wr => ∃ (n0 : Nat) (left : List (Int × Value)) (cur : Option (Int × Value)) (t5 t11 t12 t13 t14 t15 t16 t17 t18 : Value), a = ⟨#[.pointer (some ⟨p, 0, none⟩), undef, .int .i64 (0), .int .i64 ((n0 : Nat) : Int), undef, t5, .pointer (some ⟨p, 0, none⟩), .pointer (some ⟨p, 0, none⟩), .pointer (some ⟨p, 2, none⟩), .map (some m), .pointer (some ⟨(w.heap.size), 0, none⟩), t11, t12, t13, t14, t15, t16, t17, t18, undef], []⟩ ∧ left.length = n ∧ (∀ z ∈ left, z ∈ E.map mv) ∧ (left.map (·.1)).Nodup ∧ n0 + cnt (left.map (·.1)) L = L.length ∧ Ms w0 wr (rg kI m (w.heap.size) (E.map mv) (left) (cur) :: blk (p) ([.int .i64 (((x : Nat) : Int)), .int .i64 (y), .map (some m), .int .i64 (d)]) 60 :: (chs x L E ++ R))) _ ⟨0, _, _, _, _, _, _, _, _, _, _, _, rfl, rfl, fun _ h => h, hkeys, hall, hM⟩ ?_
  clear hM
  rintro n a wr ⟨n0, left, cur, t5, t11, t12, t13, t14, t15, t16, t17, t18, rfl, hlen, hsub, hnd, hcnt, hM⟩
  by_cases hleft : left = []
  · subst hleft
    refine wp_seq_k (fun K6 hK6 => ?_)
    refine wl_region ?_
    refine wl_give rfl (g_next0 (enc := kI) _ rfl hM ?_)
    (try simp only [Act.put, List.setIfInBounds_toArray, List.set_cons_zero, List.set_cons_succ])
    refine wl_give rfl (g_extract _ #[.bool false] 0 (.bool false) rfl rfl ?_)
    (try simp only [Act.put, List.setIfInBounds_toArray, List.set_cons_zero, List.set_cons_succ])
    refine wl_nil ?_
    refine hK6 _ _ ?_
    (try clear hK6 K6)
    refine wp_seq_k (fun K7 hK7 => ?_)
    refine wp_cond_false rfl ?_
    refine wp_exit ?_
    refine hK3 _ _ ?_
    (try clear hK3 K3)
    refine wp_seq_k (fun K8 hK8 => ?_)
    refine wl_region ?_
    refine wl_give rfl (g_move _ (.int .i64 (((n0 : Nat) : Int))) rfl ?_)
    (try simp only [Act.put, List.setIfInBounds_toArray, List.set_cons_zero, List.set_cons_succ])
    refine wl_give rfl (g_assign _ (.int .i64 (((n0 : Nat) : Int))) rfl ?_)
    (try simp only [Act.put, List.setIfInBounds_toArray, List.set_cons_zero, List.set_cons_succ])
    refine wl_nil ?_
    refine hK8 _ _ ?_
    (try clear hK8 K8)
    refine wp_ret ?_
    have hn0 : n0 = L.length := by simpa [cnt] using hcnt
    subst hn0
    go_ret
    exact ⟨rfl, (rg_end ((hM.up 1 rfl).up 1 rfl)).up 1 rfl⟩
  · skip
    refine wp_seq_k (fun K9 hK9 => ?_)
    refine wl_region ?_
    refine wl_give rfl (g_next1 keyI _ rfl hM (hleft) ?_)
    intro y11 w10 hy h_
    replace hM : Ms w0 w10 (rg kI m (w.heap.size) (E.map mv) (mdel (left) y11.1) (some y11) :: blk (p) ([.int .i64 (((x : Nat) : Int)), .int .i64 (y), .map (some m), .int .i64 (d)]) 60 :: (chs x L E ++ R)) := h_
    clear h_
    (try simp only [Act.put, List.setIfInBounds_toArray, List.set_cons_zero, List.set_cons_succ])
    obtain ⟨⟨j, c⟩, hE, rfl⟩ := List.mem_map.1 (hsub _ hy)
    replace hM : Ms w0 w10 (rg kI m (w.heap.size) (E.map mv) (mdel left j) (some (mv (j, c))) :: blk (p) ([.int .i64 (((x : Nat) : Int)), .int .i64 (y), .map (some m), .int .i64 (d)]) 60 :: (chs x L E ++ R)) := hM
    have hstep := cnt_mdel (L := L) hnd hy
    have hadd : Shut (IntKind.i64.wrap (((n0 : Nat) : Int) + (((ofI j L).length : Nat) : Int)) = ((n0 + (ofI j L).length : Nat) : Int)) := ⟨by have := ofI_le j L; rw [wrap_id _ (by omega) (by omega)]; omega⟩
    refine wl_give rfl (g_extract _ #[.bool true, .int .i64 (j), .chan (some c)] 0 (.bool true) rfl rfl ?_)
    (try simp only [Act.put, List.setIfInBounds_toArray, List.set_cons_zero, List.set_cons_succ])
    refine wl_nil ?_
    refine hK9 _ _ ?_
    (try clear hK9 K9)
    refine wp_seq_k (fun K12 hK12 => ?_)
    refine wp_cond_true rfl ?_
    refine wp_skip ?_
    refine hK12 _ _ ?_
    (try clear hK12 K12)
    refine wp_block ?_
    refine wp_seq_k (fun K13 hK13 => ?_)
    refine wl_region ?_
    refine wl_give rfl (g_entry _ ((mv (j, c))) rfl hM ?_)
    (try simp only [Act.put, List.setIfInBounds_toArray, List.set_cons_zero, List.set_cons_succ])
    refine wl_give rfl (g_extract _ #[.int .i64 (j), .chan (some c)] 1 (.chan (some c)) rfl rfl ?_)
    (try simp only [Act.put, List.setIfInBounds_toArray, List.set_cons_zero, List.set_cons_succ])
    refine wl_give rfl (g_assign _ (.chan (some c)) rfl ?_)
    (try simp only [Act.put, List.setIfInBounds_toArray, List.set_cons_zero, List.set_cons_succ])
    refine wl_nil ?_
    refine hK13 _ _ ?_
    (try clear hK13 K13)
    refine wl_region ?_
    refine wl_give rfl (g_move _ (.int .i64 (((n0 : Nat) : Int))) rfl ?_)
    (try simp only [Act.put, List.setIfInBounds_toArray, List.set_cons_zero, List.set_cons_succ])
    refine wl_give rfl (g_move _ (.chan (some c)) rfl ?_)
    (try simp only [Act.put, List.setIfInBounds_toArray, List.set_cons_zero, List.set_cons_succ])
    refine wl_give rfl (g_lenQ _ ((((ofI j L).length : Nat) : Int)) rfl (ch_mem hM (List.mem_cons_of_mem _ (List.mem_cons_of_mem _ (List.mem_append_left _ (chs_mem hE))))) (by simp) ?_)
    (try simp only [Act.put, List.setIfInBounds_toArray, List.set_cons_zero, List.set_cons_succ])
    refine wl_give rfl (g_ia 3 _ _ .i64 (((n0 : Nat) : Int)) ((((ofI j L).length : Nat) : Int)) (((n0 + (ofI j L).length : Nat) : Int)) rfl rfl ((hadd.out)) ?_)
    (try simp only [Act.put, List.setIfInBounds_toArray, List.set_cons_zero, List.set_cons_succ])
    refine wl_give rfl (g_assign _ (.int .i64 (((n0 + (ofI j L).length : Nat) : Int))) rfl ?_)
    (try simp only [Act.put, List.setIfInBounds_toArray, List.set_cons_zero, List.set_cons_succ])
    refine wl_nil ?_
    (try simp only [Exit.then, Exit.inBlock, ↓reduceIte, Nat.reduceEqDiff])
    exact ⟨_, hlen ▸ mdel_length hy, n0 + (ofI j L).length, _, _, _, _, _, _, _, _, _, _, _, rfl, rfl, fun z hz => hsub z (mdel_sub z hz), mdel_keys hnd, by rw [hstep] at hcnt; exact (Nat.add_assoc _ _ _).trans hcnt, hM⟩
end Go.Proofs.Ytpkjocibgmjhdaa
