/- What was put is taken once, in order, as long as it wasn't dropped. -/
import Derived.Test.YtpkjocibgmjhdaaActs
namespace Go.Proofs.Ytpkjocibgmjhdaa.bufferOnce
set_option maxRecDepth 10000
open Go Go.RowKit
set_option linter.unusedVariables false
set_option linter.unusedSimpArgs false

/-- What was put and lies there, interval by interval, in slices of the law's own. -/
def lrow (L : List Thg) (z : Int × Value) : HP := row 9 1 z.2 (ofI z.1 L).length ((ofI z.1 L).map Value.string)
def lrows (L : List Thg) (S : List (Int × Value)) : List HP := S.map (lrow L)
structure On (S : List (Int × Value)) (L : List Thg) (j : Nat) : Prop where
  dom : ∀ k, k ∈ S.map (·.1) ↔ ∃ t ∈ L, t.1 = k
  le : L.length ≤ j
section
variable {w0 w : World} {F : List HP} {L L' : List Thg} {S S1 S2 : List (Int × Value)} {z : Int × Value} {i : Int} {v v' : Value} {j : Nat} {s : ByteArray}
theorem lrows_app : lrows L (S1 ++ S2) = lrows L S1 ++ lrows L S2 := by unfold lrows; rw [List.map_append]
theorem lf (F : List HP) (h : Ms w0 w (F ++ lrows L (S1 ++ z :: S2))) : Ms w0 w (lrow L z :: (F ++ (lrows L S1 ++ lrows L S2))) := by
  refine h.perm ?_
  unfold lrows
  rw [List.map_append, List.map_cons]
  exact (List.Perm.append_left F List.perm_middle).trans List.perm_middle
theorem lb (F : List HP) (h : Ms w0 w (lrow L z :: (F ++ (lrows L S1 ++ lrows L S2)))) : Ms w0 w (F ++ lrows L (S1 ++ z :: S2)) := by
  refine h.perm ?_
  unfold lrows
  rw [List.map_append, List.map_cons]
  exact (List.perm_middle.symm).trans (List.Perm.append_left F List.perm_middle.symm)
theorem lrows_same (h : ∀ z ∈ S, ofI z.1 L' = ofI z.1 L) : lrows L' S = lrows L S := by
  unfold lrows
  exact List.map_congr_left fun z hz => by unfold lrow; rw [h z hz]
/-- A part among others. -/
theorem part_at {A : List HP} {p : HP} (h : Ms w0 w A) (hp : p ∈ A) : ∃ B, Ms w0 w (p :: B) := by
  obtain ⟨X, Y, rfl⟩ := List.append_of_mem hp
  exact ⟨_, h.perm List.perm_middle⟩
theorem lslice {A : List HP} (h : Ms w0 w A) (hp : lrow L z ∈ A) : ∃ o c, z.2 = .slice o (ofI z.1 L).length c := by
  obtain ⟨B, h⟩ := part_at h hp
  obtain ⟨o, c, h1, _⟩ := row_slice h
  exact ⟨o, c, h1⟩
theorem lmem (h : z ∈ S) : lrow L z ∈ lrows L S := List.mem_map.2 ⟨z, h, rfl⟩
theorem mid_at (h : i ∈ S.map (·.1)) : ∃ S1 v S2, S = S1 ++ (i, v) :: S2 := by
  obtain ⟨⟨k, v⟩, h1, rfl⟩ := List.mem_map.1 h
  obtain ⟨S1, S2, h2⟩ := List.append_of_mem h1
  exact ⟨S1, v, S2, h2⟩
theorem mid_ne (h : ((S1 ++ (i, v) :: S2).map (·.1)).Nodup) : ∀ z ∈ S1 ++ S2, z.1 ≠ i := by
  rw [List.map_append, List.map_cons] at h
  have hp : (S1.map (·.1) ++ i :: S2.map (·.1)).Perm (i :: (S1.map (·.1) ++ S2.map (·.1))) := List.perm_middle
  have h2 := hp.nodup_iff.1 h
  rw [List.nodup_cons, ← List.map_append] at h2
  exact fun z hz e => h2.1 (List.mem_map.2 ⟨z, hz, e⟩)
theorem mid_look (h : ((S1 ++ (i, v) :: S2).map (·.1)).Nodup) : mlook (S1 ++ (i, v) :: S2) i = some v :=
  mlook_some (j := S1.length) h (by rw [List.getElem?_append_right (Nat.le_refl _), Nat.sub_self]; rfl)
theorem mid_put (h : ((S1 ++ (i, v) :: S2).map (·.1)).Nodup) : mput (S1 ++ (i, v) :: S2) i v' = S1 ++ (i, v') :: S2 := by
  rw [mput_set (j := S1.length) (u := v) h (by rw [List.getElem?_append_right (Nat.le_refl _), Nat.sub_self]; rfl)]
  rw [List.set_append_right _ _ (Nat.le_refl _), Nat.sub_self]; rfl
theorem mid_del (h : ((S1 ++ (i, v) :: S2).map (·.1)).Nodup) : mdel (S1 ++ (i, v) :: S2) i = S1 ++ S2 := by
  have hne := mid_ne h
  unfold mdel
  rw [List.filter_append, List.filter_cons_of_neg (by simp), ← List.filter_append]
  exact List.filter_eq_self.2 fun z hz => by simpa using hne z hz
theorem on_nil : On [] [] 0 := ⟨fun k => by simp, Nat.le_refl _⟩
theorem on_same (h : On S L j) : On S L (j + 1) := ⟨h.dom, by have := h.le; omega⟩
theorem on_free (h : On S L j) (hk : i ∉ S.map (·.1)) : ofI i L = [] := ofI_nil.2 fun h1 => hk ((h.dom i).2 h1)
theorem on_set (h : On (S1 ++ (i, v) :: S2) L j) (s : ByteArray) : On (S1 ++ (i, v') :: S2) (L ++ [(i, s)]) (j + 1) := by
  refine ⟨fun k => ?_, by have := h.le; simp; omega⟩
  have h1 := h.dom k
  rw [List.map_append, List.map_cons] at h1 ⊢
  rw [h1]
  constructor
  · rintro ⟨t, h2, h3⟩; exact ⟨t, List.mem_append_left _ h2, h3⟩
  · rintro ⟨t, h2, rfl⟩
    rcases List.mem_append.1 h2 with h2 | h2
    · exact ⟨t, h2, rfl⟩
    · obtain rfl := List.mem_singleton.1 h2
      exact (h.dom i).1 (by simp)
theorem on_new (h : On S L j) (s : ByteArray) : On (S ++ [(i, v')]) (L ++ [(i, s)]) (j + 1) := by
  refine ⟨fun k => ?_, by have := h.le; simp; omega⟩
  rw [List.map_append, List.mem_append, h.dom k]
  constructor
  · rintro (⟨t, h2, h3⟩ | h2)
    · exact ⟨t, List.mem_append_left _ h2, h3⟩
    · exact ⟨(i, s), List.mem_append_right _ (by simp), (by simpa using h2 : k = i).symm⟩
  · rintro ⟨t, h2, rfl⟩
    rcases List.mem_append.1 h2 with h2 | h2
    · exact .inl ⟨t, h2, rfl⟩
    · obtain rfl := List.mem_singleton.1 h2
      exact .inr (by simp)
theorem on_take (h : On S L j) (S' : List (Int × Value)) (hS : ∀ k, k ∈ S'.map (·.1) ↔ k ∈ S.map (·.1) ∧ k ≠ i) : On S' (notI i L) (j + 1) := by
  refine ⟨fun k => ?_, by have := h.le; have := notI_length i L; omega⟩
  rw [hS, h.dom k]
  constructor
  · rintro ⟨⟨t, h1, h2⟩, h3⟩; exact ⟨t, List.mem_filter.2 ⟨h1, by simp [h2, h3]⟩, h2⟩
  · rintro ⟨t, h1, h2⟩
    obtain ⟨h3, h4⟩ := List.mem_filter.1 h1
    exact ⟨⟨t, h3, h2⟩, fun e => by simp [h2, e] at h4⟩
theorem on_none (h : On S L j) (hk : i ∉ S.map (·.1)) : notI i L = L := by
  unfold notI
  refine List.filter_eq_self.2 fun t ht => ?_
  simp only [Bool.not_eq_true', decide_eq_false_iff_not]
  intro e
  exact hk ((h.dom i).2 ⟨t, ht, e⟩)
theorem on_drop (h : On S L j) (b : Int) : On (S.filter (fun z => !decide (z.1 < b))) (notB b L) (j + 1) := by
  refine ⟨fun k => ?_, by have := h.le; have := bdN_len b L; omega⟩
  constructor
  · intro h1
    obtain ⟨z, h2, rfl⟩ := List.mem_map.1 h1
    obtain ⟨h3, h4⟩ := List.mem_filter.1 h2
    obtain ⟨t, h5, h6⟩ := (h.dom z.1).1 (List.mem_map.2 ⟨z, h3, rfl⟩)
    exact ⟨t, List.mem_filter.2 ⟨h5, by rw [h6]; exact h4⟩, h6⟩
  · rintro ⟨t, h1, rfl⟩
    obtain ⟨h2, h3⟩ := List.mem_filter.1 h1
    obtain ⟨z, h4, h5⟩ := List.mem_map.1 ((h.dom t.1).2 ⟨t, h2, rfl⟩)
    exact List.mem_map.2 ⟨z, List.mem_filter.2 ⟨h4, by rw [h5]; exact h3⟩, h5⟩
theorem on_count (h : On S L j) (hn : (S.map (·.1)).Nodup) (b : Int) : cntB b S L = bdN b L := by
  have h1 := cnt_below (b := b) hn (L := L) (fun t ht => (h.dom t.1).2 ⟨t, ht, rfl⟩)
  unfold bdN cntB; omega
end
set_option maxHeartbeats 4000000 in
theorem walk_on (a c : Int) (ao : Option Addr) (n cap q r : Nat) (w : World) (hl : LA w ao n) (hn : n ≤ 9223372036854775807) (hq : Shut (a.tmod 64 = ((q : Nat) : Int))) (hqc : Shut (IntKind.i64.wrap ((q : Nat) : Int) = ((q : Nat) : Int))) (hq1 : Shut (IntKind.i64.wrap (((q : Nat) : Int) + 1) = ((q + 1 : Nat) : Int))) (hq2 : q < 64) (hr : Shut (c.tmod 64 = ((r : Nat) : Int))) (hrc : Shut (IntKind.i64.wrap ((r : Nat) : Int) = ((r : Nat) : Int))) (hr1 : Shut (IntKind.i64.wrap (((r : Nat) : Int) + 1) = ((r + 1 : Nat) : Int))) (hr2 : r < 64) : Calls Try.prog 4 #[.int .u8 a, .int .u8 c, .slice ao n cap] w fun e w' => e = .returned (.bool true) ∧ Below w.heap.size w w' := by
  have hM := Ms.refl w
  go_enter Try.func4, Try.ntmps4
  refine wp_seq_k (fun K1 hK1 => ?_)
  refine wl_region ?_
  refine wl_give rfl (g_assign _ (.bool false) rfl ?_)
  (try simp only [Act.put, List.setIfInBounds_toArray, List.set_cons_zero, List.set_cons_succ])
  refine wl_nil ?_
  refine hK1 _ _ ?_
  (try clear hK1 K1)
  refine wp_seq_k (fun K2 hK2 => ?_)
  refine wp_seq_k (fun K3 hK3 => ?_)
  refine wl_region ?_
  refine wl_give rfl (g_call 10 _ _ [] (kf10 _ _) rfl ((awake_any w).mono ?_))
  rintro e w4 ⟨rfl, t_⟩
  refine ⟨_, rfl, ?_⟩
  replace hM := hM.call t_
  clear t_
  (try simp only [Act.put, List.setIfInBounds_toArray, List.set_cons_zero, List.set_cons_succ])
  refine wl_give rfl (g_unot 4 _ true rfl ?_)
  (try simp only [Act.put, List.setIfInBounds_toArray, List.set_cons_zero, List.set_cons_succ])
  refine wl_nil ?_
  refine hK3 _ _ ?_
  (try clear hK3 K3)
  refine wp_cond_false rfl ?_
  refine wp_skip ?_
  refine hK2 _ _ ?_
  (try clear hK2 K2)
  refine wp_seq_k (fun K5 hK5 => ?_)
  refine wl_region ?_
  refine wl_give rfl (g_move _ (.int .u8 (a)) rfl ?_)
  (try simp only [Act.put, List.setIfInBounds_toArray, List.set_cons_zero, List.set_cons_succ])
  refine wl_give rfl (g_irem 5 _ _ .u8 (a) (64) (((q : Nat) : Int)) rfl rfl (by decide) hq.out ?_)
  (try simp only [Act.put, List.setIfInBounds_toArray, List.set_cons_zero, List.set_cons_succ])
  refine wl_give rfl (g_cv_5_3 _ (((q : Nat) : Int)) (((q : Nat) : Int)) rfl (hqc.out) ?_)
  (try simp only [Act.put, List.setIfInBounds_toArray, List.set_cons_zero, List.set_cons_succ])
  refine wl_give rfl (g_ia 3 _ _ .i64 (((q : Nat) : Int)) (1) (((q + 1 : Nat) : Int)) rfl rfl hq1.out ?_)
  (try simp only [Act.put, List.setIfInBounds_toArray, List.set_cons_zero, List.set_cons_succ])
  refine wl_give rfl (g_move _ (.int .u8 (c)) rfl ?_)
  (try simp only [Act.put, List.setIfInBounds_toArray, List.set_cons_zero, List.set_cons_succ])
  refine wl_give rfl (g_irem 5 _ _ .u8 (c) (64) (((r : Nat) : Int)) rfl rfl (by decide) hr.out ?_)
  (try simp only [Act.put, List.setIfInBounds_toArray, List.set_cons_zero, List.set_cons_succ])
  refine wl_give rfl (g_cv_5_3 _ (((r : Nat) : Int)) (((r : Nat) : Int)) rfl (hrc.out) ?_)
  (try simp only [Act.put, List.setIfInBounds_toArray, List.set_cons_zero, List.set_cons_succ])
  refine wl_give rfl (g_ia 3 _ _ .i64 (((r : Nat) : Int)) (1) (((r + 1 : Nat) : Int)) rfl rfl hr1.out ?_)
  (try simp only [Act.put, List.setIfInBounds_toArray, List.set_cons_zero, List.set_cons_succ])
  refine wl_give rfl (g_call 11 _ _ [.int .i64 (((q + 1 : Nat) : Int)), .int .i64 (((r + 1 : Nat) : Int))] (kf11 _ _) rfl ((gnew (q + 1) (((r + 1 : Nat) : Int)) hM (by omega) (by omega) (by omega) (by omega)).mono ?_))
  rintro e w6 ⟨p7, rfl, h_⟩
  refine ⟨_, rfl, ?_⟩
  replace hM : Ms w w6 [bg p7 (q + 1) (((r + 1 : Nat) : Int)) (0) ([])] := h_
  clear h_
  (try simp only [Act.put, List.setIfInBounds_toArray, List.set_cons_zero, List.set_cons_succ])
  refine wl_give rfl (g_move _ (.tuple #[.pointer (some ⟨p7, 0, none⟩), .int .i64 (0)]) rfl ?_)
  (try simp only [Act.put, List.setIfInBounds_toArray, List.set_cons_zero, List.set_cons_succ])
  refine wl_give rfl (g_extract _ #[.pointer (some ⟨p7, 0, none⟩), .int .i64 (0)] 0 (.pointer (some ⟨p7, 0, none⟩)) rfl rfl ?_)
  (try simp only [Act.put, List.setIfInBounds_toArray, List.set_cons_zero, List.set_cons_succ])
  refine wl_give rfl (g_extract _ #[.pointer (some ⟨p7, 0, none⟩), .int .i64 (0)] 1 (.int .i64 (0)) rfl rfl ?_)
  (try simp only [Act.put, List.setIfInBounds_toArray, List.set_cons_zero, List.set_cons_succ])
  refine wl_give rfl (g_assign _ (.pointer (some ⟨p7, 0, none⟩)) rfl ?_)
  (try simp only [Act.put, List.setIfInBounds_toArray, List.set_cons_zero, List.set_cons_succ])
  refine wl_give rfl (g_assign _ (.int .i64 (0)) rfl ?_)
  (try simp only [Act.put, List.setIfInBounds_toArray, List.set_cons_zero, List.set_cons_succ])
  refine wl_nil ?_
  refine hK5 _ _ ?_
  (try clear hK5 K5)
  refine wp_seq_k (fun K8 hK8 => ?_)
  refine wp_seq_k (fun K9 hK9 => ?_)
  refine wl_region ?_
  refine wl_give rfl (g_move _ (.pointer (some ⟨p7, 0, none⟩)) rfl ?_)
  (try simp only [Act.put, List.setIfInBounds_toArray, List.set_cons_zero, List.set_cons_succ])
  refine wl_give rfl (g_peq _ ((some ⟨p7, 0, none⟩)) false rfl rfl ?_)
  (try simp only [Act.put, List.setIfInBounds_toArray, List.set_cons_zero, List.set_cons_succ])
  refine wl_nil ?_
  refine hK9 _ _ ?_
  (try clear hK9 K9)
  refine wp_cond_false rfl ?_
  refine wp_skip ?_
  refine hK8 _ _ ?_
  (try clear hK8 K8)
  refine wp_seq_k (fun K10 hK10 => ?_)
  refine wl_region ?_
  refine wl_give rfl (g_mmap (enc := kI) hM ?_)
  intro w11 h_
  replace hM : Ms w w11 [mp kI (w6.heap.size) ([]), bg p7 (q + 1) (((r + 1 : Nat) : Int)) (0) ([])] := h_
  clear h_
  (try simp only [Act.put, List.setIfInBounds_toArray, List.set_cons_zero, List.set_cons_succ])
  refine wl_give rfl (g_assign _ (.map (some (w6.heap.size))) rfl ?_)
  (try simp only [Act.put, List.setIfInBounds_toArray, List.set_cons_zero, List.set_cons_succ])
  refine wl_nil ?_
  refine hK10 _ _ ?_
  (try clear hK10 K10)
  refine wp_seq_k (fun K12 hK12 => ?_)
  have hcut : ∀ (j : Nat) (S : List (Int × Value)) (L : List Thg) (t : Nat → Value) (wr : World) (hI : Shut (On S L j)) (hj : j ≤ 100) (hM : Ms w wr (bg p7 (q + 1) (((r + 1 : Nat) : Int)) (j) (L) :: mp kI (w6.heap.size) (S) :: lrows L S)), K12 ⟨#[.int .u8 (a), .int .u8 (c), .slice ao (n) (cap), undef, undef, undef, .bool false, .pointer (some ⟨p7, 0, none⟩), .int .i64 (0), .map (some (w6.heap.size)), t 10, t 11, t 12, t 13, t 14, undef, undef, .bool true, .bool false, .tuple #[.pointer (some ⟨p7, 0, none⟩), .int .i64 (0)], .int .u8 (a), .int .u8 (((q : Nat) : Int)), .int .i64 (((q : Nat) : Int)), .int .i64 (((q + 1 : Nat) : Int)), .int .u8 (c), .int .u8 (((r : Nat) : Int)), .int .i64 (((r : Nat) : Int)), .int .i64 (((r + 1 : Nat) : Int)), .tuple #[.pointer (some ⟨p7, 0, none⟩), .int .i64 (0)], .pointer (some ⟨p7, 0, none⟩), .int .i64 (0), .pointer (some ⟨p7, 0, none⟩), .bool false, .map (some (w6.heap.size)), t 34, t 35, t 36, t 37, t 38, t 39, t 40, t 41, t 42, t 43, t 44, t 45, t 46, t 47, t 48, t 49, t 50, t 51, t 52, t 53, t 54, t 55, t 56, t 57, t 58, t 59, t 60, t 61, t 62, t 63, t 64, t 65, t 66, t 67, t 68, t 69, t 70, t 71, t 72, t 73, t 74, t 75, t 76, t 77, t 78, t 79, t 80, t 81, t 82, t 83, t 84, t 85, t 86, t 87, t 88, t 89, t 90, t 91, t 92, t 93, t 94, t 95, t 96, t 97, t 98, t 99, t 100, t 101, t 102, t 103, t 104, t 105, t 106, t 107, t 108, t 109, t 110, t 111, undef, undef, undef, undef, undef, undef, undef, undef, undef, undef, undef, undef, undef, undef, undef, undef, undef, undef, undef, undef, undef, undef], []⟩ wr := by
    clear hM
    intro j S L t wr hI hj hM
    have hle := hI.out.le
    have hnd := mp_keys (hM.up 1 rfl)
    refine hK12 _ _ ?_
    clear hK12 K12
    refine wp_seq_k (fun K13 hK13 => ?_)
    refine wp_seq_k (fun K14 hK14 => ?_)
    refine wl_region ?_
    refine wl_give rfl (g_move _ (.map (some (w6.heap.size))) rfl ?_)
    (try simp only [Act.put, List.setIfInBounds_toArray, List.set_cons_zero, List.set_cons_succ])
    refine wl_give rfl (g_range Try.underlying47 _ rfl (show Ms w wr (mp kI (w6.heap.size) (S) :: bg p7 (q + 1) (((r + 1 : Nat) : Int)) (j) (L) :: lrows L S) from (hM.up 1 rfl)) ?_)
    intro w15 h_
    replace hM : Ms w w15 (rg kI (w6.heap.size) (wr.heap.size) (S) (S) (none) :: bg p7 (q + 1) (((r + 1 : Nat) : Int)) (j) (L) :: lrows L S) := h_
    clear h_
    (try simp only [Act.put, List.setIfInBounds_toArray, List.set_cons_zero, List.set_cons_succ])
    refine wl_nil ?_
    refine hK14 _ _ ?_
    (try clear hK14 K14)
    refine wp_block ?_
    have h9 := ((hM.up 1 rfl).up 1 rfl)
    refine wp_rounds (fun m2 st wr2 => ∃ (left : List (Int × Value)) (cur : Option (Int × Value)) (Lc : List Thg) (u : Nat → Value), st = ⟨#[.int .u8 (a), .int .u8 (c), .slice ao (n) (cap), undef, undef, undef, .bool false, .pointer (some ⟨p7, 0, none⟩), .int .i64 (0), .map (some (w6.heap.size)), t 10, t 11, t 12, t 13, t 14, u 15, u 16, .bool true, .bool false, .tuple #[.pointer (some ⟨p7, 0, none⟩), .int .i64 (0)], .int .u8 (a), .int .u8 (((q : Nat) : Int)), .int .i64 (((q : Nat) : Int)), .int .i64 (((q + 1 : Nat) : Int)), .int .u8 (c), .int .u8 (((r : Nat) : Int)), .int .i64 (((r : Nat) : Int)), .int .i64 (((r + 1 : Nat) : Int)), .tuple #[.pointer (some ⟨p7, 0, none⟩), .int .i64 (0)], .pointer (some ⟨p7, 0, none⟩), .int .i64 (0), .pointer (some ⟨p7, 0, none⟩), .bool false, .map (some (w6.heap.size)), t 34, t 35, t 36, t 37, t 38, t 39, t 40, t 41, t 42, t 43, t 44, t 45, t 46, t 47, t 48, t 49, t 50, t 51, t 52, t 53, t 54, t 55, t 56, t 57, t 58, t 59, t 60, t 61, t 62, t 63, t 64, t 65, t 66, t 67, t 68, t 69, t 70, t 71, t 72, t 73, t 74, t 75, t 76, t 77, t 78, t 79, t 80, t 81, t 82, t 83, t 84, t 85, t 86, t 87, t 88, t 89, t 90, t 91, t 92, t 93, t 94, t 95, t 96, t 97, t 98, t 99, t 100, t 101, t 102, t 103, t 104, t 105, t 106, t 107, t 108, t 109, t 110, t 111, .map (some (w6.heap.size)), .pointer (some ⟨(wr.heap.size), 0, none⟩), u 114, u 115, u 116, u 117, u 118, u 119, u 120, u 121, u 122, u 123, u 124, undef, undef, undef, undef, undef, undef, undef, undef, undef], []⟩ ∧ left.length = m2 ∧ (∀ z ∈ left, z ∈ S) ∧ (∀ z ∈ left, ofI z.1 Lc = ofI z.1 L) ∧ (∀ t ∈ Lc, t.1 ∈ left.map (·.1)) ∧ Lc.length ≤ 100 ∧ Ms w wr2 (rg kI (w6.heap.size) (wr.heap.size) (S) (left) (cur) :: bg p7 (q + 1) (((r + 1 : Nat) : Int)) (j) (Lc) :: lrows L S)) _ ⟨_, _, L, (tl [.int .u8 (a), .int .u8 (c), .slice ao (n) (cap), undef, undef, undef, .bool false, .pointer (some ⟨p7, 0, none⟩), .int .i64 (0), .map (some (w6.heap.size)), t 10, t 11, t 12, t 13, t 14, undef, undef, .bool true, .bool false, .tuple #[.pointer (some ⟨p7, 0, none⟩), .int .i64 (0)], .int .u8 (a), .int .u8 (((q : Nat) : Int)), .int .i64 (((q : Nat) : Int)), .int .i64 (((q + 1 : Nat) : Int)), .int .u8 (c), .int .u8 (((r : Nat) : Int)), .int .i64 (((r : Nat) : Int)), .int .i64 (((r + 1 : Nat) : Int)), .tuple #[.pointer (some ⟨p7, 0, none⟩), .int .i64 (0)], .pointer (some ⟨p7, 0, none⟩), .int .i64 (0), .pointer (some ⟨p7, 0, none⟩), .bool false, .map (some (w6.heap.size)), t 34, t 35, t 36, t 37, t 38, t 39, t 40, t 41, t 42, t 43, t 44, t 45, t 46, t 47, t 48, t 49, t 50, t 51, t 52, t 53, t 54, t 55, t 56, t 57, t 58, t 59, t 60, t 61, t 62, t 63, t 64, t 65, t 66, t 67, t 68, t 69, t 70, t 71, t 72, t 73, t 74, t 75, t 76, t 77, t 78, t 79, t 80, t 81, t 82, t 83, t 84, t 85, t 86, t 87, t 88, t 89, t 90, t 91, t 92, t 93, t 94, t 95, t 96, t 97, t 98, t 99, t 100, t 101, t 102, t 103, t 104, t 105, t 106, t 107, t 108, t 109, t 110, t 111, .map (some (w6.heap.size)), .pointer (some ⟨(wr.heap.size), 0, none⟩), undef, undef, undef, undef, undef, undef, undef, undef, undef, undef, undef, undef, undef, undef, undef, undef, undef, undef, undef, undef]), rfl, rfl, fun _ h => h, fun _ _ => rfl, fun t ht => (hI.out.dom t.1).2 ⟨t, ht, rfl⟩, by omega, h9⟩ ?_
    clear hM h9
    rintro m2 st wr2 ⟨left, cur, Lc, u, rfl, hlen2, hsub, hsame, hdom, hLc, hM⟩
    by_cases hleft : left = []
    · subst hleft
      have hLc0 : Lc = [] := List.eq_nil_iff_forall_not_mem.2 fun t ht => by have := hdom t ht; simp at this
      subst hLc0
      refine wp_seq_k (fun K16 hK16 => ?_)
      refine wl_region ?_
      refine wl_give rfl (g_next0 (enc := kI) _ rfl hM ?_)
      (try simp only [Act.put, List.setIfInBounds_toArray, List.set_cons_zero, List.set_cons_succ])
      refine wl_give rfl (g_extract _ #[.bool false] 0 (.bool false) rfl rfl ?_)
      (try simp only [Act.put, List.setIfInBounds_toArray, List.set_cons_zero, List.set_cons_succ])
      refine wl_nil ?_
      refine hK16 _ _ ?_
      (try clear hK16 K16)
      refine wp_seq_k (fun K17 hK17 => ?_)
      refine wp_cond_false rfl ?_
      refine wp_exit ?_
      refine hK13 _ _ ?_
      (try clear hK13 K13)
      refine wp_seq_k (fun K18 hK18 => ?_)
      refine wl_region ?_
      refine wl_give rfl (g_move _ (.pointer (some ⟨p7, 0, none⟩)) rfl ?_)
      (try simp only [Act.put, List.setIfInBounds_toArray, List.set_cons_zero, List.set_cons_succ])
      refine wl_give rfl (g_call 23 _ _ [.pointer (some ⟨p7, 0, none⟩)] (kf23 _ _) rfl ((keep1 1 rfl (fun R_ h_ => gsize (n := 0) h_ (by simp) (rfl)) hM).mono ?_))
      rintro e w19 ⟨rfl, h_⟩
      refine ⟨_, rfl, ?_⟩
      replace hM : Ms w w19 (rg kI (w6.heap.size) (wr.heap.size) (S) ([]) (cur) :: bg p7 (q + 1) (((r + 1 : Nat) : Int)) (j) ([]) :: lrows L S) := h_
      clear h_
      (try simp only [Act.put, List.setIfInBounds_toArray, List.set_cons_zero, List.set_cons_succ])
      refine wl_give rfl (g_ieq 3 _ _ .i64 (0) (0) true rfl rfl (by decide) ?_)
      (try simp only [Act.put, List.setIfInBounds_toArray, List.set_cons_zero, List.set_cons_succ])
      refine wl_give rfl (g_move _ (.bool true) rfl ?_)
      (try simp only [Act.put, List.setIfInBounds_toArray, List.set_cons_zero, List.set_cons_succ])
      refine wl_give rfl (g_move _ (.pointer (some ⟨p7, 0, none⟩)) rfl ?_)
      (try simp only [Act.put, List.setIfInBounds_toArray, List.set_cons_zero, List.set_cons_succ])
      refine wl_give rfl (g_call 21 _ _ [.pointer (some ⟨p7, 0, none⟩)] (kf21 _ _) rfl ((to_row (givals (l := ivs ([])) (show Ms w w19 (bg p7 (q + 1) (((r + 1 : Nat) : Int)) (j) ([]) :: rg kI (w6.heap.size) (wr.heap.size) (S) ([]) (cur) :: lrows L S) from (hM.up 1 rfl)) (by simp) rfl)).mono ?_))
      rintro e w20 ⟨o21, k22, rfl, h_⟩
      refine ⟨_, rfl, ?_⟩
      replace hM : Ms w w20 (row 3 1 (.slice o21 (ivs ([])).length k22) ((ivs ([])).length) ((ivs ([])).map encZ) :: bg p7 (q + 1) (((r + 1 : Nat) : Int)) (j) ([]) :: rg kI (w6.heap.size) (wr.heap.size) (S) ([]) (cur) :: lrows L S) := h_
      clear h_
      (try simp only [Act.put, List.setIfInBounds_toArray, List.set_cons_zero, List.set_cons_succ])
      refine wl_give rfl (g_len _ 39 3 (o21) ((ivs ([])).length) (k22) ((((ivs ([])).length : Nat) : Int)) Try.underlying39 rfl rfl ?_)
      (try simp only [Act.put, List.setIfInBounds_toArray, List.set_cons_zero, List.set_cons_succ])
      refine wl_give rfl (g_ieq 3 _ _ .i64 ((((ivs ([])).length : Nat) : Int)) (0) true rfl rfl (decide_eq_true rfl) ?_)
      (try simp only [Act.put, List.setIfInBounds_toArray, List.set_cons_zero, List.set_cons_succ])
      refine wl_give rfl (g_pickt _ _ _ (.bool true) rfl rfl ?_)
      (try simp only [Act.put, List.setIfInBounds_toArray, List.set_cons_zero, List.set_cons_succ])
      refine wl_give rfl (g_assign _ (.bool true) rfl ?_)
      (try simp only [Act.put, List.setIfInBounds_toArray, List.set_cons_zero, List.set_cons_succ])
      refine wl_nil ?_
      refine hK18 _ _ ?_
      (try clear hK18 K18)
      refine wp_ret ?_
      go_ret
      exact ⟨rfl, hM.below⟩
    · skip
      refine wp_seq_k (fun K23 hK23 => ?_)
      refine wl_region ?_
      refine wl_give rfl (g_next1 keyI _ rfl hM (hleft) ?_)
      intro y25 w24 hy h_
      replace hM : Ms w w24 (rg kI (w6.heap.size) (wr.heap.size) (S) (mdel (left) y25.1) (some y25) :: bg p7 (q + 1) (((r + 1 : Nat) : Int)) (j) (Lc) :: lrows L S) := h_
      clear h_
      (try simp only [Act.put, List.setIfInBounds_toArray, List.set_cons_zero, List.set_cons_succ])
      obtain ⟨j2, v2⟩ := y25
      have hyS := hsub _ hy
      have hsm : ofI j2 Lc = ofI j2 L := hsame _ hy
      obtain ⟨S1, S2, rfl⟩ := List.append_of_mem hyS
      have hfr := lf [_, _] hM
      replace hM : Ms w w24 (row 9 1 v2 ((ofI j2 L).length) ((ofI j2 L).map Value.string) :: rg kI (w6.heap.size) (wr.heap.size) (S1 ++ (j2, v2) :: S2) (mdel left j2) (some (j2, v2)) :: bg p7 (q + 1) (((r + 1 : Nat) : Int)) (j) (Lc) :: (lrows L S1 ++ lrows L S2)) := hfr
      clear hfr
      refine wl_give rfl (g_extract _ #[.bool true, .int .i64 (j2), v2] 0 (.bool true) rfl rfl ?_)
      (try simp only [Act.put, List.setIfInBounds_toArray, List.set_cons_zero, List.set_cons_succ])
      refine wl_nil ?_
      refine hK23 _ _ ?_
      (try clear hK23 K23)
      refine wp_seq_k (fun K26 hK26 => ?_)
      refine wp_cond_true rfl ?_
      refine wp_skip ?_
      refine hK26 _ _ ?_
      (try clear hK26 K26)
      refine wp_block ?_
      refine wp_seq_k (fun K27 hK27 => ?_)
      refine wl_region ?_
      refine wl_give rfl (g_entry _ ((j2, v2)) rfl (show Ms w _ (rg kI (w6.heap.size) (wr.heap.size) (S1 ++ (j2, v2) :: S2) (mdel left j2) (some (j2, v2)) :: row 9 1 v2 ((ofI j2 L).length) ((ofI j2 L).map Value.string) :: bg p7 (q + 1) (((r + 1 : Nat) : Int)) (j) (Lc) :: (lrows L S1 ++ lrows L S2)) from (hM.up 1 rfl)) ?_)
      (try simp only [Act.put, List.setIfInBounds_toArray, List.set_cons_zero, List.set_cons_succ])
      refine wl_give rfl (g_extract _ #[.int .i64 (j2), v2] 0 (.int .i64 (j2)) rfl rfl ?_)
      (try simp only [Act.put, List.setIfInBounds_toArray, List.set_cons_zero, List.set_cons_succ])
      refine wl_give rfl (g_extract _ #[.int .i64 (j2), v2] 1 (v2) rfl rfl ?_)
      (try simp only [Act.put, List.setIfInBounds_toArray, List.set_cons_zero, List.set_cons_succ])
      refine wl_give rfl (g_assign _ (.int .i64 (j2)) rfl ?_)
      (try simp only [Act.put, List.setIfInBounds_toArray, List.set_cons_zero, List.set_cons_succ])
      refine wl_give rfl (g_assign _ (v2) rfl ?_)
      (try simp only [Act.put, List.setIfInBounds_toArray, List.set_cons_zero, List.set_cons_succ])
      refine wl_nil ?_
      refine hK27 _ _ ?_
      (try clear hK27 K27)
      refine wp_seq_k (fun K28 hK28 => ?_)
      refine wl_region ?_
      refine wl_give rfl (g_move _ (.pointer (some ⟨p7, 0, none⟩)) rfl ?_)
      (try simp only [Act.put, List.setIfInBounds_toArray, List.set_cons_zero, List.set_cons_succ])
      refine wl_give rfl (g_move _ (.int .i64 (j2)) rfl ?_)
      (try simp only [Act.put, List.setIfInBounds_toArray, List.set_cons_zero, List.set_cons_succ])
      refine wl_give rfl (g_call 17 _ _ [.pointer (some ⟨p7, 0, none⟩), .int .i64 (j2)] (kf17 _ _) rfl ((to_row (gtake (ts := ofI j2 L) (L' := notI j2 Lc) (show Ms w w24 (bg p7 (q + 1) (((r + 1 : Nat) : Int)) (j) (Lc) :: row 9 1 v2 ((ofI j2 L).length) ((ofI j2 L).map Value.string) :: rg kI (w6.heap.size) (wr.heap.size) (S1 ++ (j2, v2) :: S2) (mdel left j2) (some (j2, v2)) :: (lrows L S1 ++ lrows L S2)) from (hM.up 2 rfl)) (by omega) (hsm) (rfl))).mono ?_))
      rintro e w29 ⟨o30, k31, rfl, h_⟩
      refine ⟨_, rfl, ?_⟩
      replace hM : Ms w w29 (row 9 1 (.slice o30 ((ofI j2 L).length) k31) ((ofI j2 L).length) ((ofI j2 L).map Value.string) :: bg p7 (q + 1) (((r + 1 : Nat) : Int)) (j) (notI j2 Lc) :: row 9 1 v2 ((ofI j2 L).length) ((ofI j2 L).map Value.string) :: rg kI (w6.heap.size) (wr.heap.size) (S1 ++ (j2, v2) :: S2) (mdel left j2) (some (j2, v2)) :: (lrows L S1 ++ lrows L S2)) := h_
      clear h_
      (try simp only [Act.put, List.setIfInBounds_toArray, List.set_cons_zero, List.set_cons_succ])
      refine wl_give rfl (g_move _ (v2) rfl ?_)
      (try simp only [Act.put, List.setIfInBounds_toArray, List.set_cons_zero, List.set_cons_succ])
      refine wl_give rfl (g_call 16 _ _ [.slice o30 ((ofI j2 L).length) (k31), v2] (kf16 _ _) rfl ((texts_any (xs := ofI j2 L) (ys := ofI j2 L) (r := true) (show Ms w w29 (row 9 1 (.slice o30 ((ofI j2 L).length) k31) ((ofI j2 L).length) ((ofI j2 L).map Value.string) :: row 9 1 v2 ((ofI j2 L).length) ((ofI j2 L).map Value.string) :: bg p7 (q + 1) (((r + 1 : Nat) : Int)) (j) (notI j2 Lc) :: rg kI (w6.heap.size) (wr.heap.size) (S1 ++ (j2, v2) :: S2) (mdel left j2) (some (j2, v2)) :: (lrows L S1 ++ lrows L S2)) from ((hM.up 2 rfl).up 1 rfl)) (by have := ofI_le j2 L; omega) (decide_eq_true rfl)).mono ?_))
      rintro e w32 ⟨rfl, h_⟩
      refine ⟨_, rfl, ?_⟩
      replace hM : Ms w w32 (row 9 1 (.slice o30 ((ofI j2 L).length) k31) ((ofI j2 L).length) ((ofI j2 L).map Value.string) :: row 9 1 v2 ((ofI j2 L).length) ((ofI j2 L).map Value.string) :: bg p7 (q + 1) (((r + 1 : Nat) : Int)) (j) (notI j2 Lc) :: rg kI (w6.heap.size) (wr.heap.size) (S1 ++ (j2, v2) :: S2) (mdel left j2) (some (j2, v2)) :: (lrows L S1 ++ lrows L S2)) := h_
      clear h_
      (try simp only [Act.put, List.setIfInBounds_toArray, List.set_cons_zero, List.set_cons_succ])
      refine wl_give rfl (g_unot 4 _ true rfl ?_)
      (try simp only [Act.put, List.setIfInBounds_toArray, List.set_cons_zero, List.set_cons_succ])
      refine wl_nil ?_
      refine hK28 _ _ ?_
      (try clear hK28 K28)
      refine wp_cond_false rfl ?_
      refine wp_skip ?_
      (try simp only [Exit.then, Exit.inBlock, ↓reduceIte, Nat.reduceEqDiff])
      have h9 : Ms w w32 (row 9 1 v2 ((ofI j2 L).length) ((ofI j2 L).map Value.string) :: rg kI (w6.heap.size) (wr.heap.size) (S1 ++ (j2, v2) :: S2) (mdel left j2) (some (j2, v2)) :: bg p7 (q + 1) (((r + 1 : Nat) : Int)) (j) (notI j2 Lc) :: row 9 1 (.slice o30 ((ofI j2 L).length) k31) ((ofI j2 L).length) ((ofI j2 L).map Value.string) :: (lrows L S1 ++ lrows L S2)) := ((((hM.up 0 rfl).up 2 rfl).up 3 rfl).up 3 rfl)
      have h7 : Ms w w32 (lrow L (j2, v2) :: ([rg kI (w6.heap.size) (wr.heap.size) (S1 ++ (j2, v2) :: S2) (mdel left j2) (some (j2, v2)), bg p7 (q + 1) (((r + 1 : Nat) : Int)) (j) (notI j2 Lc)] ++ (lrows L S1 ++ lrows L S2))) := h9.erase 3
      have h8 := lb [_, _] h7
      refine ⟨_, hlen2 ▸ mdel_length hy, _, _, notI j2 Lc, (tl [.int .u8 (a), .int .u8 (c), .slice ao (n) (cap), undef, undef, undef, .bool false, .pointer (some ⟨p7, 0, none⟩), .int .i64 (0), .map (some (w6.heap.size)), t 10, t 11, t 12, t 13, t 14, .int .i64 (j2), v2, .bool true, .bool false, .tuple #[.pointer (some ⟨p7, 0, none⟩), .int .i64 (0)], .int .u8 (a), .int .u8 (((q : Nat) : Int)), .int .i64 (((q : Nat) : Int)), .int .i64 (((q + 1 : Nat) : Int)), .int .u8 (c), .int .u8 (((r : Nat) : Int)), .int .i64 (((r : Nat) : Int)), .int .i64 (((r + 1 : Nat) : Int)), .tuple #[.pointer (some ⟨p7, 0, none⟩), .int .i64 (0)], .pointer (some ⟨p7, 0, none⟩), .int .i64 (0), .pointer (some ⟨p7, 0, none⟩), .bool false, .map (some (w6.heap.size)), t 34, t 35, t 36, t 37, t 38, t 39, t 40, t 41, t 42, t 43, t 44, t 45, t 46, t 47, t 48, t 49, t 50, t 51, t 52, t 53, t 54, t 55, t 56, t 57, t 58, t 59, t 60, t 61, t 62, t 63, t 64, t 65, t 66, t 67, t 68, t 69, t 70, t 71, t 72, t 73, t 74, t 75, t 76, t 77, t 78, t 79, t 80, t 81, t 82, t 83, t 84, t 85, t 86, t 87, t 88, t 89, t 90, t 91, t 92, t 93, t 94, t 95, t 96, t 97, t 98, t 99, t 100, t 101, t 102, t 103, t 104, t 105, t 106, t 107, t 108, t 109, t 110, t 111, .map (some (w6.heap.size)), .pointer (some ⟨(wr.heap.size), 0, none⟩), .tuple #[.bool true, .int .i64 (j2), v2], .bool true, .tuple #[.int .i64 (j2), v2], .int .i64 (j2), v2, .pointer (some ⟨p7, 0, none⟩), .int .i64 (j2), .slice o30 ((ofI j2 L).length) (k31), v2, .bool true, .bool false, undef, undef, undef, undef, undef, undef, undef, undef, undef]), rfl, rfl, fun z hz => hsub z (mdel_sub z hz), fun z hz => ?_, fun t ht => ?_, by have := notI_length j2 Lc; omega, h8⟩
      · have h6 := (List.mem_filter.1 hz).2
        rw [ofI_notI, if_neg (by simpa using h6)]
        exact hsame z (mdel_sub z hz)
      · obtain ⟨h6, h7⟩ := List.mem_filter.1 ht
        obtain ⟨z, hz, h5⟩ := List.mem_map.1 (hdom t h6)
        exact List.mem_map.2 ⟨z, List.mem_filter.2 ⟨hz, by rw [h5]; exact h7⟩, h5⟩
  (try clear hK12)
  refine wp_seq_k (fun K33 hK33 => ?_)
  refine wl_region ?_
  refine wl_give rfl (g_assign _ (.int .i64 (0)) rfl ?_)
  (try simp only [Act.put, List.setIfInBounds_toArray, List.set_cons_zero, List.set_cons_succ])
  refine wl_nil ?_
  refine hK33 _ _ ?_
  (try clear hK33 K33)
  refine wp_block ?_
  have h9 := ((hM.up 0 rfl).up 1 rfl)
  refine wp_rounds (fun m st wr => ∃ (j : Nat) (S : List (Int × Value)) (L : List Thg) (t : Nat → Value), st = ⟨#[.int .u8 (a), .int .u8 (c), .slice ao (n) (cap), undef, undef, undef, .bool false, .pointer (some ⟨p7, 0, none⟩), .int .i64 (0), .map (some (w6.heap.size)), .int .i64 ((j : Nat) : Int), t 11, t 12, t 13, t 14, undef, undef, .bool true, .bool false, .tuple #[.pointer (some ⟨p7, 0, none⟩), .int .i64 (0)], .int .u8 (a), .int .u8 (((q : Nat) : Int)), .int .i64 (((q : Nat) : Int)), .int .i64 (((q + 1 : Nat) : Int)), .int .u8 (c), .int .u8 (((r : Nat) : Int)), .int .i64 (((r : Nat) : Int)), .int .i64 (((r + 1 : Nat) : Int)), .tuple #[.pointer (some ⟨p7, 0, none⟩), .int .i64 (0)], .pointer (some ⟨p7, 0, none⟩), .int .i64 (0), .pointer (some ⟨p7, 0, none⟩), .bool false, .map (some (w6.heap.size)), t 34, t 35, t 36, t 37, t 38, t 39, t 40, t 41, t 42, t 43, t 44, t 45, t 46, t 47, t 48, t 49, t 50, t 51, t 52, t 53, t 54, t 55, t 56, t 57, t 58, t 59, t 60, t 61, t 62, t 63, t 64, t 65, t 66, t 67, t 68, t 69, t 70, t 71, t 72, t 73, t 74, t 75, t 76, t 77, t 78, t 79, t 80, t 81, t 82, t 83, t 84, t 85, t 86, t 87, t 88, t 89, t 90, t 91, t 92, t 93, t 94, t 95, t 96, t 97, t 98, t 99, t 100, t 101, t 102, t 103, t 104, t 105, t 106, t 107, t 108, t 109, t 110, t 111, undef, undef, undef, undef, undef, undef, undef, undef, undef, undef, undef, undef, undef, undef, undef, undef, undef, undef, undef, undef, undef, undef], []⟩ ∧ j + m = 100 ∧ Shut (On S L j) ∧ Ms w wr (bg p7 (q + 1) (((r + 1 : Nat) : Int)) (j) (L) :: mp kI (w6.heap.size) (S) :: lrows L S)) 100 ⟨0, [], [], (tl [.int .u8 (a), .int .u8 (c), .slice ao (n) (cap), undef, undef, undef, .bool false, .pointer (some ⟨p7, 0, none⟩), .int .i64 (0), .map (some (w6.heap.size)), .int .i64 (0), undef, undef, undef, undef, undef, undef, .bool true, .bool false, .tuple #[.pointer (some ⟨p7, 0, none⟩), .int .i64 (0)], .int .u8 (a), .int .u8 (((q : Nat) : Int)), .int .i64 (((q : Nat) : Int)), .int .i64 (((q + 1 : Nat) : Int)), .int .u8 (c), .int .u8 (((r : Nat) : Int)), .int .i64 (((r : Nat) : Int)), .int .i64 (((r + 1 : Nat) : Int)), .tuple #[.pointer (some ⟨p7, 0, none⟩), .int .i64 (0)], .pointer (some ⟨p7, 0, none⟩), .int .i64 (0), .pointer (some ⟨p7, 0, none⟩), .bool false, .map (some (w6.heap.size)), undef, undef, undef, undef, undef, undef, undef, undef, undef, undef, undef, undef, undef, undef, undef, undef, undef, undef, undef, undef, undef, undef, undef, undef, undef, undef, undef, undef, undef, undef, undef, undef, undef, undef, undef, undef, undef, undef, undef, undef, undef, undef, undef, undef, undef, undef, undef, undef, undef, undef, undef, undef, undef, undef, undef, undef, undef, undef, undef, undef, undef, undef, undef, undef, undef, undef, undef, undef, undef, undef, undef, undef, undef, undef, undef, undef, undef, undef, undef, undef, undef, undef, undef, undef, undef, undef, undef, undef, undef, undef, undef, undef, undef, undef, undef, undef, undef, undef, undef, undef]), rfl, Nat.zero_add _, ⟨on_nil⟩, h9⟩ ?_
  clear hM h9
  rintro m st wr ⟨j, S, L, t, rfl, hj, hI, hM⟩
  by_cases h1 : ((j : Nat) : Int) < ((n : Nat) : Int)
  · by_cases h2 : ((j : Nat) : Int) < 100
    · skip
      obtain ⟨b, o, k, i, s, rfl, hc0, hc1, hc2, hik⟩ := hl.on hM j (by omega)
      have hjn : j < n := by omega
      have hj1 : Shut (IntKind.i64.wrap (((j : Nat) : Int) + 1) = ((j + 1 : Nat) : Int)) := ⟨by rw [wrap_id _ (by omega) (by omega)]; omega⟩
      have hle := hI.out.le
      have hnd := mp_keys (hM.up 1 rfl)
      refine wp_seq_k (fun K34 hK34 => ?_)
      refine wp_seq_k (fun K35 hK35 => ?_)
      refine wl_region ?_
      refine wl_give rfl (g_move _ (.int .i64 (((j : Nat) : Int))) rfl ?_)
      (try simp only [Act.put, List.setIfInBounds_toArray, List.set_cons_zero, List.set_cons_succ])
      refine wl_give rfl (g_move _ (.slice (some ⟨b, o, none⟩) (n) (cap)) rfl ?_)
      (try simp only [Act.put, List.setIfInBounds_toArray, List.set_cons_zero, List.set_cons_succ])
      refine wl_give rfl (g_len _ 22 32 ((some ⟨b, o, none⟩)) (n) (cap) (((n : Nat) : Int)) Try.underlying22 rfl rfl ?_)
      (try simp only [Act.put, List.setIfInBounds_toArray, List.set_cons_zero, List.set_cons_succ])
      refine wl_give rfl (g_ilss 3 _ _ .i64 (((j : Nat) : Int)) (((n : Nat) : Int)) true rfl rfl (decide_eq_true h1) ?_)
      (try simp only [Act.put, List.setIfInBounds_toArray, List.set_cons_zero, List.set_cons_succ])
      refine wl_give rfl (g_move _ (.bool true) rfl ?_)
      (try simp only [Act.put, List.setIfInBounds_toArray, List.set_cons_zero, List.set_cons_succ])
      refine wl_give rfl (g_move _ (.int .i64 (((j : Nat) : Int))) rfl ?_)
      (try simp only [Act.put, List.setIfInBounds_toArray, List.set_cons_zero, List.set_cons_succ])
      refine wl_give rfl (g_ilss 3 _ _ .i64 (((j : Nat) : Int)) (100) true rfl rfl (decide_eq_true h2) ?_)
      (try simp only [Act.put, List.setIfInBounds_toArray, List.set_cons_zero, List.set_cons_succ])
      refine wl_give rfl (g_pickt _ _ _ (.bool true) rfl rfl ?_)
      (try simp only [Act.put, List.setIfInBounds_toArray, List.set_cons_zero, List.set_cons_succ])
      refine wl_nil ?_
      refine hK35 _ _ ?_
      (try clear hK35 K35)
      refine wp_cond_true rfl ?_
      refine wp_skip ?_
      refine hK34 _ _ ?_
      (try clear hK34 K34)
      refine wp_seq_k (fun K36 hK36 => ?_)
      refine wp_block ?_
      refine wp_seq_k (fun K37 hK37 => ?_)
      refine wl_region ?_
      refine wl_give rfl (g_move _ (.slice (some ⟨b, o, none⟩) (n) (cap)) rfl ?_)
      (try simp only [Act.put, List.setIfInBounds_toArray, List.set_cons_zero, List.set_cons_succ])
      refine wl_give rfl (g_move _ (.int .i64 (((j : Nat) : Int))) rfl ?_)
      (try simp only [Act.put, List.setIfInBounds_toArray, List.set_cons_zero, List.set_cons_succ])
      refine wl_give rfl (g_ix _ _ 22 32 3 Try.underlying22 szof32 b o n cap j (o + j * 3) _ rfl rfl rfl hjn rfl ?_)
      (try simp only [Act.put, List.setIfInBounds_toArray, List.set_cons_zero, List.set_cons_succ])
      refine wl_give rfl (g_ldAct _ (b) (o + j * 3) k i s rfl hc0 hc1 hc2 ?_)
      (try simp only [Act.put, List.setIfInBounds_toArray, List.set_cons_zero, List.set_cons_succ])
      refine wl_give rfl (g_alloc 32 (([.int .i64 (0), .int .i64 (0), .string (⟨#[]⟩)] : List Value)) zeroA ?_)
      intro w38 t_ b_
      replace hM : Ms w w38 (blk (wr.heap.size) (([.int .i64 (0), .int .i64 (0), .string (⟨#[]⟩)] : List Value)) 32 :: bg p7 (q + 1) (((r + 1 : Nat) : Int)) (j) (L) :: mp kI (w6.heap.size) (S) :: lrows L S) := hM.new t_ b_
      clear t_ b_
      (try simp only [Act.put, List.setIfInBounds_toArray, List.set_cons_zero, List.set_cons_succ])
      refine wl_give rfl (g_store_all 32 _ _ (wr.heap.size) (([.int .i64 (k), .int .i64 (i), .string (s)] : List Value)) _ 32 rfl rfl (hM.get 0 rfl) (size32) (rfl) ((by simp [Value.oneCell'])) ?_)
      intro w39 t_ b_
      replace hM : Ms w w39 (blk (wr.heap.size) (([.int .i64 (k), .int .i64 (i), .string (s)] : List Value)) 32 :: bg p7 (q + 1) (((r + 1 : Nat) : Int)) (j) (L) :: mp kI (w6.heap.size) (S) :: lrows L S) := hM.put 0 rfl t_ b_
      clear t_ b_
      (try simp only [Act.put, List.setIfInBounds_toArray, List.set_cons_zero, List.set_cons_succ])
      refine wl_nil ?_
      refine hK37 _ _ ?_
      (try clear hK37 K37)
      refine wp_seq_k (fun K40 hK40 => ?_)
      by_cases hs : (200 : Int) < ((s.size : Nat) : Int)
      · skip
        refine wp_seq_k (fun K41 hK41 => ?_)
        refine wl_region ?_
        refine wl_give rfl (g_load_all 32 _ (wr.heap.size) (([.int .i64 (k), .int .i64 (i), .string (s)] : List Value)) 32 _ rfl (hM.get 0 rfl) Try.underlying32 rfl (size32) ?_)
        (try simp only [Act.put, List.setIfInBounds_toArray, List.set_cons_zero, List.set_cons_succ])
        refine wl_give rfl (g_call 13 _ _ [.agg (([.int .i64 (k), .int .i64 (i), .string (s)] : List Value)).toArray] (kf13 _ _) rfl ((large_t k i s w39 hs).mono ?_))
        rintro e w42 ⟨rfl, t_⟩
        refine ⟨_, rfl, ?_⟩
        replace hM := hM.call t_
        clear t_
        (try simp only [Act.put, List.setIfInBounds_toArray, List.set_cons_zero, List.set_cons_succ])
        refine wl_nil ?_
        refine hK41 _ _ ?_
        (try clear hK41 K41)
        refine wp_cond_true rfl ?_
        refine wp_seq_k (fun K43 hK43 => ?_)
        refine wl_region ?_
        refine wl_give rfl (g_assign _ (.bool true) rfl ?_)
        (try simp only [Act.put, List.setIfInBounds_toArray, List.set_cons_zero, List.set_cons_succ])
        refine wl_nil ?_
        refine hK43 _ _ ?_
        (try clear hK43 K43)
        refine wp_ret ?_
        go_ret
        exact ⟨rfl, hM.below⟩
      · skip
        refine wp_seq_k (fun K44 hK44 => ?_)
        refine wl_region ?_
        refine wl_give rfl (g_load_all 32 _ (wr.heap.size) (([.int .i64 (k), .int .i64 (i), .string (s)] : List Value)) 32 _ rfl (hM.get 0 rfl) Try.underlying32 rfl (size32) ?_)
        (try simp only [Act.put, List.setIfInBounds_toArray, List.set_cons_zero, List.set_cons_succ])
        refine wl_give rfl (g_call 13 _ _ [.agg (([.int .i64 (k), .int .i64 (i), .string (s)] : List Value)).toArray] (kf13 _ _) rfl ((large_f k i s w39 hs).mono ?_))
        rintro e w45 ⟨rfl, t_⟩
        refine ⟨_, rfl, ?_⟩
        replace hM := hM.call t_
        clear t_
        (try simp only [Act.put, List.setIfInBounds_toArray, List.set_cons_zero, List.set_cons_succ])
        refine wl_nil ?_
        refine hK44 _ _ ?_
        (try clear hK44 K44)
        refine wp_cond_false rfl ?_
        refine wp_skip ?_
        refine hK40 _ _ ?_
        (try clear hK40 K40)
        refine wp_seq_k (fun K46 hK46 => ?_)
        refine wl_region ?_
        refine wl_give rfl (g_fa 32 _ (wr.heap.size) (0) (0) 0 rfl (fa32_0 _ _ _) ?_)
        (try simp only [Act.put, List.setIfInBounds_toArray, List.set_cons_zero, List.set_cons_succ])
        refine wl_give rfl (g_ld1 3 _ (wr.heap.size) 0 _ rfl (ld3 _ _ _ _ ((hM.get 0 rfl).cell 0 _ rfl)) ?_)
        (try simp only [Act.put, List.setIfInBounds_toArray, List.set_cons_zero, List.set_cons_succ])
        refine wl_nil ?_
        refine hK46 _ _ ?_
        (try clear hK46 K46)
        refine wp_block ?_
        by_cases hk0 : k = 0
        · obtain ⟨e, he⟩ : ∃ e, bpE ((q + 1 : Nat) : Int) ((r + 1 : Nat) : Int) i s L = e := ⟨_, rfl⟩
          by_cases he0 : e = 0
          · subst he0
            refine wp_seq_k (fun K47 hK47 => ?_)
            refine wl_region ?_
            refine wl_give rfl (g_ieq 3 _ _ .i64 (k) (0) true rfl rfl (decide_eq_true hk0) ?_)
            (try simp only [Act.put, List.setIfInBounds_toArray, List.set_cons_zero, List.set_cons_succ])
            refine wl_give rfl (g_assign _ (.bool true) rfl ?_)
            (try simp only [Act.put, List.setIfInBounds_toArray, List.set_cons_zero, List.set_cons_succ])
            refine wl_nil ?_
            refine hK47 _ _ ?_
            (try clear hK47 K47)
            refine wp_cond_true rfl ?_
            refine wp_seq_k (fun K48 hK48 => ?_)
            refine wl_region ?_
            refine wl_give rfl (g_move _ (.pointer (some ⟨p7, 0, none⟩)) rfl ?_)
            (try simp only [Act.put, List.setIfInBounds_toArray, List.set_cons_zero, List.set_cons_succ])
            refine wl_give rfl (g_fa 32 _ (wr.heap.size) (0) (1) 1 rfl (fa32_1 _ _ _) ?_)
            (try simp only [Act.put, List.setIfInBounds_toArray, List.set_cons_zero, List.set_cons_succ])
            refine wl_give rfl (g_ld1 3 _ (wr.heap.size) 1 _ rfl (ld3 _ _ _ _ ((hM.get 0 rfl).cell 1 _ rfl)) ?_)
            (try simp only [Act.put, List.setIfInBounds_toArray, List.set_cons_zero, List.set_cons_succ])
            refine wl_give rfl (g_fa 32 _ (wr.heap.size) (0) (2) 2 rfl (fa32_2 _ _ _) ?_)
            (try simp only [Act.put, List.setIfInBounds_toArray, List.set_cons_zero, List.set_cons_succ])
            refine wl_give rfl (g_ld1 9 _ (wr.heap.size) 2 _ rfl (ld9 _ _ _ _ ((hM.get 0 rfl).cell 2 _ rfl)) ?_)
            (try simp only [Act.put, List.setIfInBounds_toArray, List.set_cons_zero, List.set_cons_succ])
            refine wl_give rfl (g_call 14 _ _ [.pointer (some ⟨p7, 0, none⟩), .int .i64 (i), .string (s)] (kf14 _ _) rfl ((gput_0 (show Ms w w45 (bg p7 (q + 1) (((r + 1 : Nat) : Int)) (j) (L) :: blk (wr.heap.size) (([.int .i64 (k), .int .i64 (i), .string (s)] : List Value)) 32 :: mp kI (w6.heap.size) (S) :: lrows L S) from (hM.up 1 rfl)) (by omega) (by omega) hik (by omega) ⟨he⟩).mono ?_))
            rintro e w49 ⟨rfl, h_⟩
            refine ⟨_, rfl, ?_⟩
            replace hM : Ms w w49 (bg p7 (q + 1) (((r + 1 : Nat) : Int)) (j) (L ++ [(i, s)]) :: blk (wr.heap.size) (([.int .i64 (k), .int .i64 (i), .string (s)] : List Value)) 32 :: mp kI (w6.heap.size) (S) :: lrows L S) := h_
            clear h_
            (try simp only [Act.put, List.setIfInBounds_toArray, List.set_cons_zero, List.set_cons_succ])
            refine wl_give rfl (g_ieq 25 _ _ .i64 (0) (0) true rfl rfl (by decide) ?_)
            (try simp only [Act.put, List.setIfInBounds_toArray, List.set_cons_zero, List.set_cons_succ])
            refine wl_nil ?_
            refine hK48 _ _ ?_
            (try clear hK48 K48)
            refine wp_cond_true rfl ?_
            by_cases hin : i ∈ S.map (·.1)
            · skip
              obtain ⟨S1, v, S2, rfl⟩ := mid_at hin
              have h9 := lf [_, _, _] hM
              have hne := mid_ne hnd
              replace hM : Ms w w49 (row 9 1 v ((ofI i L).length) ((ofI i L).map Value.string) :: bg p7 (q + 1) (((r + 1 : Nat) : Int)) (j) (L ++ [(i, s)]) :: blk (wr.heap.size) (([.int .i64 (k), .int .i64 (i), .string (s)] : List Value)) 32 :: mp kI (w6.heap.size) (S1 ++ (i, v) :: S2) :: (lrows L S1 ++ lrows L S2)) := h9
              clear h9
              refine wp_region_steps (by kernel_rfl) (by kernel_rfl) [9, 10, 11] [0, 0, 0, 0, 0, 0, 0, 0, 0, 0, 1, 2] [2, 2, 2, 2, 2, 2, 1, 2, 0, 1, 2, 3] (by kernel_rfl) (Pm := Nat × Value) (fun π => [.map (some (w6.heap.size)), .pointer (some ⟨wr.heap.size, 1, none⟩), .int .i64 (i), .map (some (w6.heap.size)), .pointer (some ⟨wr.heap.size, 1, none⟩), .int .i64 (i), v, .pointer (some ⟨wr.heap.size, 2, none⟩), .string (s), .slice (some ⟨π.1, 0, none⟩) (1) (1), π.2, undef]) (fun _ => by rfl) (fun j_ π wx => match j_ with | 0 => Ms w wx (row 9 1 v ((ofI i L).length) ((ofI i L).map Value.string) :: bg p7 (q + 1) (((r + 1 : Nat) : Int)) (j) (L ++ [(i, s)]) :: blk (wr.heap.size) (([.int .i64 (k), .int .i64 (i), .string (s)] : List Value)) 32 :: mp kI (w6.heap.size) (S1 ++ (i, v) :: S2) :: (lrows L S1 ++ lrows L S2)) | 1 => Ms w wx (blk (π.1) [.string (s)] 9 :: row 9 1 v ((ofI i L).length) ((ofI i L).map Value.string) :: bg p7 (q + 1) (((r + 1 : Nat) : Int)) (j) (L ++ [(i, s)]) :: blk (wr.heap.size) (([.int .i64 (k), .int .i64 (i), .string (s)] : List Value)) 32 :: mp kI (w6.heap.size) (S1 ++ (i, v) :: S2) :: (lrows L S1 ++ lrows L S2)) | 2 => Ms w wx (row 9 1 π.2 ((ofI i L).length + 1) ((ofI i L).map Value.string ++ [.string (s)]) :: blk (π.1) [.string (s)] 9 :: bg p7 (q + 1) (((r + 1 : Nat) : Int)) (j) (L ++ [(i, s)]) :: blk (wr.heap.size) (([.int .i64 (k), .int .i64 (i), .string (s)] : List Value)) 32 :: mp kI (w6.heap.size) (S1 ++ (i, v) :: S2) :: (lrows L S1 ++ lrows L S2)) | _ => Ms w wx (mp kI (w6.heap.size) (mput (S1 ++ (i, v) :: S2) (i) (π.2)) :: row 9 1 π.2 ((ofI i L).length + 1) ((ofI i L).map Value.string ++ [.string (s)]) :: blk (π.1) [.string (s)] 9 :: bg p7 (q + 1) (((r + 1 : Nat) : Int)) (j) (L ++ [(i, s)]) :: blk (wr.heap.size) (([.int .i64 (k), .int .i64 (i), .string (s)] : List Value)) 32 :: (lrows L S1 ++ lrows L S2))) (0, undef) hM.drew ?_ ?_ ?_
              · intro j_ k_ o_ hj_ ho_ π wx hM
                rcases j_ with _ | _ | _ | j_
                · obtain rfl := Option.some.inj hj_
                  obtain rfl := Option.some.inj ho_
                  simp only [fullL, Act.put, List.setIfInBounds_toArray, List.set_cons_succ, List.set_cons_zero]
                  replace hM : Ms w wx (row 9 1 v ((ofI i L).length) ((ofI i L).map Value.string) :: bg p7 (q + 1) (((r + 1 : Nat) : Int)) (j) (L ++ [(i, s)]) :: blk (wr.heap.size) (([.int .i64 (k), .int .i64 (i), .string (s)] : List Value)) 32 :: mp kI (w6.heap.size) (S1 ++ (i, v) :: S2) :: (lrows L S1 ++ lrows L S2)) := hM
                  exact gw rfl (g_bs1 36 9 Try.underlying36 szof9 _ Try.zeroValue9 rfl _ (.string (s)) rfl rfl hM (fun  w' h_ => ⟨(wx.heap.size, π.2), rfl, fun i h1 h2 => by rcases i with _ | _ | _ | _ | _ | _ | _ | _ | _ | _ | _ | _ | i <;> first | rfl | trivial | exact absurd rfl h2 | exact absurd h1 (by decide), h_⟩))
                · obtain rfl := Option.some.inj hj_
                  obtain rfl := Option.some.inj ho_
                  simp only [fullL, Act.put, List.setIfInBounds_toArray, List.set_cons_succ, List.set_cons_zero]
                  replace hM : Ms w wx (blk (π.1) [.string (s)] 9 :: row 9 1 v ((ofI i L).length) ((ofI i L).map Value.string) :: bg p7 (q + 1) (((r + 1 : Nat) : Int)) (j) (L ++ [(i, s)]) :: blk (wr.heap.size) (([.int .i64 (k), .int .i64 (i), .string (s)] : List Value)) 32 :: mp kI (w6.heap.size) (S1 ++ (i, v) :: S2) :: (lrows L S1 ++ lrows L S2)) := hM
                  exact gw rfl (g_apS _ _ (v) ((ofI i L).length) ((ofI i L).map Value.string) (π.1) 1 ([.string (s)]) 9 rfl rfl (show Ms w wx (row 9 1 v ((ofI i L).length) ((ofI i L).map Value.string) :: blk (π.1) [.string (s)] 9 :: bg p7 (q + 1) (((r + 1 : Nat) : Int)) (j) (L ++ [(i, s)]) :: blk (wr.heap.size) (([.int .i64 (k), .int .i64 (i), .string (s)] : List Value)) 32 :: mp kI (w6.heap.size) (S1 ++ (i, v) :: S2) :: (lrows L S1 ++ lrows L S2)) from (hM.up 1 rfl)) rfl (by simp [Value.oneCell']) (by have := ofI_le i L; omega) (fun g_0 w' h_ => ⟨(π.1, g_0), rfl, fun i h1 h2 => by rcases i with _ | _ | _ | _ | _ | _ | _ | _ | _ | _ | _ | _ | i <;> first | rfl | trivial | exact absurd rfl h2 | exact absurd h1 (by decide), h_⟩))
                · obtain rfl := Option.some.inj hj_
                  obtain rfl := Option.some.inj ho_
                  simp only [fullL, Act.put, List.setIfInBounds_toArray, List.set_cons_succ, List.set_cons_zero]
                  replace hM : Ms w wx (row 9 1 π.2 ((ofI i L).length + 1) ((ofI i L).map Value.string ++ [.string (s)]) :: blk (π.1) [.string (s)] 9 :: bg p7 (q + 1) (((r + 1 : Nat) : Int)) (j) (L ++ [(i, s)]) :: blk (wr.heap.size) (([.int .i64 (k), .int .i64 (i), .string (s)] : List Value)) 32 :: mp kI (w6.heap.size) (S1 ++ (i, v) :: S2) :: (lrows L S1 ++ lrows L S2)) := hM
                  exact gw rfl (g_mup keyI Try.underlying47 _ _ _ (i) (π.2) rfl rfl rfl (show Ms w wx (mp kI (w6.heap.size) (S1 ++ (i, v) :: S2) :: row 9 1 π.2 ((ofI i L).length + 1) ((ofI i L).map Value.string ++ [.string (s)]) :: blk (π.1) [.string (s)] 9 :: bg p7 (q + 1) (((r + 1 : Nat) : Int)) (j) (L ++ [(i, s)]) :: blk (wr.heap.size) (([.int .i64 (k), .int .i64 (i), .string (s)] : List Value)) 32 :: (lrows L S1 ++ lrows L S2)) from (hM.up 4 rfl)) (fun  w' h_ => ⟨(π.1, π.2), rfl, fun i h1 h2 => by rcases i with _ | _ | _ | _ | _ | _ | _ | _ | _ | _ | _ | _ | i <;> first | rfl | trivial | exact absurd rfl h2 | exact absurd h1 (by decide), h_⟩))
                · simp at hj_
              · intro i_ o_ ho_ hi_ j_ hd_ hh_ hj_ π wx hM
                simp only [fullL, Act.put, List.setIfInBounds_toArray, List.set_cons_succ, List.set_cons_zero]
                rcases i_ with _ | _ | _ | _ | _ | _ | _ | _ | _ | _ | _ | _ | i_
                · obtain rfl := Option.some.inj ho_
                  exact gw rfl (g_move _ (.map (some (w6.heap.size))) rfl ⟨rfl, hM⟩)
                · obtain rfl := Option.some.inj ho_
                  exact gw rfl (g_fa 32 _ (wr.heap.size) (0) (1) 1 rfl (fa32_1 _ _ _) ⟨rfl, hM⟩)
                · obtain rfl := Option.some.inj ho_
                  rcases j_ with _ | _ | _ | _ | j_
                  · replace hM : Ms w wx (row 9 1 v ((ofI i L).length) ((ofI i L).map Value.string) :: bg p7 (q + 1) (((r + 1 : Nat) : Int)) (j) (L ++ [(i, s)]) :: blk (wr.heap.size) (([.int .i64 (k), .int .i64 (i), .string (s)] : List Value)) 32 :: mp kI (w6.heap.size) (S1 ++ (i, v) :: S2) :: (lrows L S1 ++ lrows L S2)) := hM
                    exact gw rfl (g_ld1 3 _ (wr.heap.size) 1 _ rfl (ld3 _ _ _ _ ((hM.get 2 rfl).cell 1 _ rfl)) ⟨rfl, hM⟩)
                  · replace hM : Ms w wx (blk (π.1) [.string (s)] 9 :: row 9 1 v ((ofI i L).length) ((ofI i L).map Value.string) :: bg p7 (q + 1) (((r + 1 : Nat) : Int)) (j) (L ++ [(i, s)]) :: blk (wr.heap.size) (([.int .i64 (k), .int .i64 (i), .string (s)] : List Value)) 32 :: mp kI (w6.heap.size) (S1 ++ (i, v) :: S2) :: (lrows L S1 ++ lrows L S2)) := hM
                    exact gw rfl (g_ld1 3 _ (wr.heap.size) 1 _ rfl (ld3 _ _ _ _ ((hM.get 3 rfl).cell 1 _ rfl)) ⟨rfl, hM⟩)
                  · replace hM : Ms w wx (row 9 1 π.2 ((ofI i L).length + 1) ((ofI i L).map Value.string ++ [.string (s)]) :: blk (π.1) [.string (s)] 9 :: bg p7 (q + 1) (((r + 1 : Nat) : Int)) (j) (L ++ [(i, s)]) :: blk (wr.heap.size) (([.int .i64 (k), .int .i64 (i), .string (s)] : List Value)) 32 :: mp kI (w6.heap.size) (S1 ++ (i, v) :: S2) :: (lrows L S1 ++ lrows L S2)) := hM
                    exact gw rfl (g_ld1 3 _ (wr.heap.size) 1 _ rfl (ld3 _ _ _ _ ((hM.get 3 rfl).cell 1 _ rfl)) ⟨rfl, hM⟩)
                  · exact absurd hh_ (by decide)
                  · exact absurd hj_ (by simp)
                · obtain rfl := Option.some.inj ho_
                  exact gw rfl (g_move _ (.map (some (w6.heap.size))) rfl ⟨rfl, hM⟩)
                · obtain rfl := Option.some.inj ho_
                  exact gw rfl (g_fa 32 _ (wr.heap.size) (0) (1) 1 rfl (fa32_1 _ _ _) ⟨rfl, hM⟩)
                · obtain rfl := Option.some.inj ho_
                  rcases j_ with _ | _ | _ | _ | j_
                  · replace hM : Ms w wx (row 9 1 v ((ofI i L).length) ((ofI i L).map Value.string) :: bg p7 (q + 1) (((r + 1 : Nat) : Int)) (j) (L ++ [(i, s)]) :: blk (wr.heap.size) (([.int .i64 (k), .int .i64 (i), .string (s)] : List Value)) 32 :: mp kI (w6.heap.size) (S1 ++ (i, v) :: S2) :: (lrows L S1 ++ lrows L S2)) := hM
                    exact gw rfl (g_ld1 3 _ (wr.heap.size) 1 _ rfl (ld3 _ _ _ _ ((hM.get 2 rfl).cell 1 _ rfl)) ⟨rfl, hM⟩)
                  · replace hM : Ms w wx (blk (π.1) [.string (s)] 9 :: row 9 1 v ((ofI i L).length) ((ofI i L).map Value.string) :: bg p7 (q + 1) (((r + 1 : Nat) : Int)) (j) (L ++ [(i, s)]) :: blk (wr.heap.size) (([.int .i64 (k), .int .i64 (i), .string (s)] : List Value)) 32 :: mp kI (w6.heap.size) (S1 ++ (i, v) :: S2) :: (lrows L S1 ++ lrows L S2)) := hM
                    exact gw rfl (g_ld1 3 _ (wr.heap.size) 1 _ rfl (ld3 _ _ _ _ ((hM.get 3 rfl).cell 1 _ rfl)) ⟨rfl, hM⟩)
                  · replace hM : Ms w wx (row 9 1 π.2 ((ofI i L).length + 1) ((ofI i L).map Value.string ++ [.string (s)]) :: blk (π.1) [.string (s)] 9 :: bg p7 (q + 1) (((r + 1 : Nat) : Int)) (j) (L ++ [(i, s)]) :: blk (wr.heap.size) (([.int .i64 (k), .int .i64 (i), .string (s)] : List Value)) 32 :: mp kI (w6.heap.size) (S1 ++ (i, v) :: S2) :: (lrows L S1 ++ lrows L S2)) := hM
                    exact gw rfl (g_ld1 3 _ (wr.heap.size) 1 _ rfl (ld3 _ _ _ _ ((hM.get 3 rfl).cell 1 _ rfl)) ⟨rfl, hM⟩)
                  · exact absurd hh_ (by decide)
                  · exact absurd hj_ (by simp)
                · obtain rfl := Option.some.inj ho_
                  rcases j_ with _ | _ | _ | _ | j_
                  · replace hM : Ms w wx (row 9 1 v ((ofI i L).length) ((ofI i L).map Value.string) :: bg p7 (q + 1) (((r + 1 : Nat) : Int)) (j) (L ++ [(i, s)]) :: blk (wr.heap.size) (([.int .i64 (k), .int .i64 (i), .string (s)] : List Value)) 32 :: mp kI (w6.heap.size) (S1 ++ (i, v) :: S2) :: (lrows L S1 ++ lrows L S2)) := hM
                    exact gw rfl (g_look keyI Try.underlying47 Try.zeroValue36 _ _ (i) (v) rfl rfl (show Ms w _ (mp kI (w6.heap.size) (S1 ++ (i, v) :: S2) :: row 9 1 v ((ofI i L).length) ((ofI i L).map Value.string) :: bg p7 (q + 1) (((r + 1 : Nat) : Int)) (j) (L ++ [(i, s)]) :: blk (wr.heap.size) (([.int .i64 (k), .int .i64 (i), .string (s)] : List Value)) 32 :: (lrows L S1 ++ lrows L S2)) from (hM.up 3 rfl)) (by rw [mid_look hnd]; rfl) ⟨rfl, hM⟩)
                  · replace hM : Ms w wx (blk (π.1) [.string (s)] 9 :: row 9 1 v ((ofI i L).length) ((ofI i L).map Value.string) :: bg p7 (q + 1) (((r + 1 : Nat) : Int)) (j) (L ++ [(i, s)]) :: blk (wr.heap.size) (([.int .i64 (k), .int .i64 (i), .string (s)] : List Value)) 32 :: mp kI (w6.heap.size) (S1 ++ (i, v) :: S2) :: (lrows L S1 ++ lrows L S2)) := hM
                    exact gw rfl (g_look keyI Try.underlying47 Try.zeroValue36 _ _ (i) (v) rfl rfl (show Ms w _ (mp kI (w6.heap.size) (S1 ++ (i, v) :: S2) :: blk (π.1) [.string (s)] 9 :: row 9 1 v ((ofI i L).length) ((ofI i L).map Value.string) :: bg p7 (q + 1) (((r + 1 : Nat) : Int)) (j) (L ++ [(i, s)]) :: blk (wr.heap.size) (([.int .i64 (k), .int .i64 (i), .string (s)] : List Value)) 32 :: (lrows L S1 ++ lrows L S2)) from (hM.up 4 rfl)) (by rw [mid_look hnd]; rfl) ⟨rfl, hM⟩)
                  · exact absurd hh_ (by decide)
                  · exact absurd hh_ (by decide)
                  · exact absurd hj_ (by simp)
                · obtain rfl := Option.some.inj ho_
                  exact gw rfl (g_fa 32 _ (wr.heap.size) (0) (2) 2 rfl (fa32_2 _ _ _) ⟨rfl, hM⟩)
                · obtain rfl := Option.some.inj ho_
                  rcases j_ with _ | _ | _ | _ | j_
                  · replace hM : Ms w wx (row 9 1 v ((ofI i L).length) ((ofI i L).map Value.string) :: bg p7 (q + 1) (((r + 1 : Nat) : Int)) (j) (L ++ [(i, s)]) :: blk (wr.heap.size) (([.int .i64 (k), .int .i64 (i), .string (s)] : List Value)) 32 :: mp kI (w6.heap.size) (S1 ++ (i, v) :: S2) :: (lrows L S1 ++ lrows L S2)) := hM
                    exact gw rfl (g_ld1 9 _ (wr.heap.size) 2 _ rfl (ld9 _ _ _ _ ((hM.get 2 rfl).cell 2 _ rfl)) ⟨rfl, hM⟩)
                  · exact absurd hh_ (by decide)
                  · exact absurd hh_ (by decide)
                  · exact absurd hh_ (by decide)
                  · exact absurd hj_ (by simp)
                · exact absurd (by decide) hi_
                · exact absurd (by decide) hi_
                · exact absurd (by decide) hi_
                · simp at ho_
              · simp only [fullL, Act.put, List.setIfInBounds_toArray, List.set_cons_succ, List.set_cons_zero]
                rintro ⟨p51, v52⟩ w50 hM
                replace hM : Ms w w50 (mp kI (w6.heap.size) (mput (S1 ++ (i, v) :: S2) (i) (v52)) :: row 9 1 v52 ((ofI i L).length + 1) ((ofI i L).map Value.string ++ [.string (s)]) :: blk (p51) [.string (s)] 9 :: bg p7 (q + 1) (((r + 1 : Nat) : Int)) (j) (L ++ [(i, s)]) :: blk (wr.heap.size) (([.int .i64 (k), .int .i64 (i), .string (s)] : List Value)) 32 :: (lrows L S1 ++ lrows L S2)) := hM
                refine hK36 _ _ ?_
                (try clear hK36 K36)
                refine wl_region ?_
                refine wl_give rfl (g_move _ (.int .i64 (((j : Nat) : Int))) rfl ?_)
                (try simp only [Act.put, List.setIfInBounds_toArray, List.set_cons_zero, List.set_cons_succ])
                refine wl_give rfl (g_ia 3 _ _ .i64 (((j : Nat) : Int)) (1) (((j + 1 : Nat) : Int)) rfl rfl (hj1.out) ?_)
                (try simp only [Act.put, List.setIfInBounds_toArray, List.set_cons_zero, List.set_cons_succ])
                refine wl_give rfl (g_assign _ (.int .i64 (((j + 1 : Nat) : Int))) rfl ?_)
                (try simp only [Act.put, List.setIfInBounds_toArray, List.set_cons_zero, List.set_cons_succ])
                refine wl_nil ?_
                (try simp only [Exit.then, Exit.inBlock, ↓reduceIte, Nat.reduceEqDiff])
                have h9 : Ms w w50 (bg p7 (q + 1) (((r + 1 : Nat) : Int)) (j) (L ++ [(i, s)]) :: row 9 1 v52 ((ofI i L).length + 1) ((ofI i L).map Value.string ++ [.string (s)]) :: mp kI (w6.heap.size) (mput (S1 ++ (i, v) :: S2) (i) (v52)) :: blk (p51) [.string (s)] 9 :: blk (wr.heap.size) (([.int .i64 (k), .int .i64 (i), .string (s)] : List Value)) 32 :: (lrows L S1 ++ lrows L S2)) := (((((hM.up 4 rfl).up 3 rfl).up 2 rfl).up 3 rfl).up 4 rfl)
                have e1 := mid_put (v' := v52) hnd
                have h8 := bg_more (Nat.le_succ j) ((h9.erase 4).erase 3)
                rw [e1] at h8
                have e3 : ofI i (L ++ [(i, s)]) = ofI i L ++ [s] := by rw [ofI_snoc, if_pos rfl]
                have e4 : lrows L S1 = lrows (L ++ [(i, s)]) S1 := (lrows_same fun z hz => by rw [ofI_snoc, if_neg (Ne.symm (hne z (List.mem_append_left _ hz))), List.append_nil]).symm
                have e5 : lrows L S2 = lrows (L ++ [(i, s)]) S2 := (lrows_same fun z hz => by rw [ofI_snoc, if_neg (Ne.symm (hne z (List.mem_append_right _ hz))), List.append_nil]).symm
                rw [e4, e5] at h8
                have h7 : Ms w w50 (lrow (L ++ [(i, s)]) (i, v52) :: ([bg p7 (q + 1) (((r + 1 : Nat) : Int)) (j + 1) (L ++ [(i, s)]), mp kI (w6.heap.size) (S1 ++ (i, v52) :: S2)] ++ (lrows (L ++ [(i, s)]) S1 ++ lrows (L ++ [(i, s)]) S2))) := by
                  unfold lrow; rw [e3, List.map_append, List.length_append]; exact h8.up 1 rfl
                exact ⟨m - 1, by omega, j + 1, _, _, (tl [.int .u8 (a), .int .u8 (c), .slice (some ⟨b, o, none⟩) (n) (cap), undef, undef, undef, .bool false, .pointer (some ⟨p7, 0, none⟩), .int .i64 (0), .map (some (w6.heap.size)), .int .i64 (((j + 1 : Nat) : Int)), .pointer (some ⟨wr.heap.size, 0, none⟩), t 12, t 13, t 14, undef, undef, .bool true, .bool false, .tuple #[.pointer (some ⟨p7, 0, none⟩), .int .i64 (0)], .int .u8 (a), .int .u8 (((q : Nat) : Int)), .int .i64 (((q : Nat) : Int)), .int .i64 (((q + 1 : Nat) : Int)), .int .u8 (c), .int .u8 (((r : Nat) : Int)), .int .i64 (((r : Nat) : Int)), .int .i64 (((r + 1 : Nat) : Int)), .tuple #[.pointer (some ⟨p7, 0, none⟩), .int .i64 (0)], .pointer (some ⟨p7, 0, none⟩), .int .i64 (0), .pointer (some ⟨p7, 0, none⟩), .bool false, .map (some (w6.heap.size)), .int .i64 (((j : Nat) : Int)), .slice (some ⟨b, o, none⟩) (n) (cap), .int .i64 (((n : Nat) : Int)), .bool true, .bool true, .int .i64 (((j : Nat) : Int)), .bool true, .bool true, .int .i64 (((j : Nat) : Int)), .int .i64 (((j + 1 : Nat) : Int)), .slice (some ⟨b, o, none⟩) (n) (cap), .int .i64 (((j : Nat) : Int)), .pointer (some ⟨b, o + j * 3, none⟩), .agg (([.int .i64 (k), .int .i64 (i), .string (s)] : List Value)).toArray, .agg (([.int .i64 (k), .int .i64 (i), .string (s)] : List Value)).toArray, .bool false, .pointer (some ⟨wr.heap.size, 0, none⟩), .int .i64 (k), .bool true, .bool true, .pointer (some ⟨p7, 0, none⟩), .pointer (some ⟨wr.heap.size, 1, none⟩), .int .i64 (i), .pointer (some ⟨wr.heap.size, 2, none⟩), .string (s), .int .i64 (0), .bool true, .map (some (w6.heap.size)), .pointer (some ⟨wr.heap.size, 1, none⟩), .int .i64 (i), .map (some (w6.heap.size)), .pointer (some ⟨wr.heap.size, 1, none⟩), .int .i64 (i), v, .pointer (some ⟨wr.heap.size, 2, none⟩), .string (s), .slice (some ⟨p51, 0, none⟩) (1) (1), v52, t 72, t 73, t 74, t 75, t 76, t 77, t 78, t 79, t 80, t 81, t 82, t 83, t 84, t 85, t 86, t 87, t 88, t 89, t 90, t 91, t 92, t 93, t 94, t 95, t 96, t 97, t 98, t 99, t 100, t 101, t 102, t 103, t 104, t 105, t 106, t 107, t 108, t 109, t 110, t 111, undef, undef, undef, undef, undef, undef, undef, undef, undef, undef, undef, undef, undef, undef, undef, undef, undef, undef, undef, undef, undef, undef]), rfl, by omega, ⟨on_set hI.out s⟩, lb [_, _] h7⟩
            · skip
              have hofn := on_free hI.out hin
              have h9 := row_nil (e := 9) (size := 1) hM
              replace hM : Ms w w49 (row 9 1 (.slice none 0 0) (0) ([]) :: bg p7 (q + 1) (((r + 1 : Nat) : Int)) (j) (L ++ [(i, s)]) :: blk (wr.heap.size) (([.int .i64 (k), .int .i64 (i), .string (s)] : List Value)) 32 :: mp kI (w6.heap.size) (S) :: lrows L S) := h9
              clear h9
              refine wp_region_steps (by kernel_rfl) (by kernel_rfl) [9, 10, 11] [0, 0, 0, 0, 0, 0, 0, 0, 0, 0, 1, 2] [2, 2, 2, 2, 2, 2, 1, 2, 0, 1, 2, 3] (by kernel_rfl) (Pm := Nat × Value) (fun π => [.map (some (w6.heap.size)), .pointer (some ⟨wr.heap.size, 1, none⟩), .int .i64 (i), .map (some (w6.heap.size)), .pointer (some ⟨wr.heap.size, 1, none⟩), .int .i64 (i), .slice none (0) (0), .pointer (some ⟨wr.heap.size, 2, none⟩), .string (s), .slice (some ⟨π.1, 0, none⟩) (1) (1), π.2, undef]) (fun _ => by rfl) (fun j_ π wx => match j_ with | 0 => Ms w wx (row 9 1 (.slice none 0 0) (0) ([]) :: bg p7 (q + 1) (((r + 1 : Nat) : Int)) (j) (L ++ [(i, s)]) :: blk (wr.heap.size) (([.int .i64 (k), .int .i64 (i), .string (s)] : List Value)) 32 :: mp kI (w6.heap.size) (S) :: lrows L S) | 1 => Ms w wx (blk (π.1) [.string (s)] 9 :: row 9 1 (.slice none 0 0) (0) ([]) :: bg p7 (q + 1) (((r + 1 : Nat) : Int)) (j) (L ++ [(i, s)]) :: blk (wr.heap.size) (([.int .i64 (k), .int .i64 (i), .string (s)] : List Value)) 32 :: mp kI (w6.heap.size) (S) :: lrows L S) | 2 => Ms w wx (row 9 1 π.2 (0 + 1) ([] ++ [.string (s)]) :: blk (π.1) [.string (s)] 9 :: bg p7 (q + 1) (((r + 1 : Nat) : Int)) (j) (L ++ [(i, s)]) :: blk (wr.heap.size) (([.int .i64 (k), .int .i64 (i), .string (s)] : List Value)) 32 :: mp kI (w6.heap.size) (S) :: lrows L S) | _ => Ms w wx (mp kI (w6.heap.size) (mput (S) (i) (π.2)) :: row 9 1 π.2 (0 + 1) ([] ++ [.string (s)]) :: blk (π.1) [.string (s)] 9 :: bg p7 (q + 1) (((r + 1 : Nat) : Int)) (j) (L ++ [(i, s)]) :: blk (wr.heap.size) (([.int .i64 (k), .int .i64 (i), .string (s)] : List Value)) 32 :: lrows L S)) (0, undef) hM.drew ?_ ?_ ?_
              · intro j_ k_ o_ hj_ ho_ π wx hM
                rcases j_ with _ | _ | _ | j_
                · obtain rfl := Option.some.inj hj_
                  obtain rfl := Option.some.inj ho_
                  simp only [fullL, Act.put, List.setIfInBounds_toArray, List.set_cons_succ, List.set_cons_zero]
                  replace hM : Ms w wx (row 9 1 (.slice none 0 0) (0) ([]) :: bg p7 (q + 1) (((r + 1 : Nat) : Int)) (j) (L ++ [(i, s)]) :: blk (wr.heap.size) (([.int .i64 (k), .int .i64 (i), .string (s)] : List Value)) 32 :: mp kI (w6.heap.size) (S) :: lrows L S) := hM
                  exact gw rfl (g_bs1 36 9 Try.underlying36 szof9 _ Try.zeroValue9 rfl _ (.string (s)) rfl rfl hM (fun  w' h_ => ⟨(wx.heap.size, π.2), rfl, fun i h1 h2 => by rcases i with _ | _ | _ | _ | _ | _ | _ | _ | _ | _ | _ | _ | i <;> first | rfl | trivial | exact absurd rfl h2 | exact absurd h1 (by decide), h_⟩))
                · obtain rfl := Option.some.inj hj_
                  obtain rfl := Option.some.inj ho_
                  simp only [fullL, Act.put, List.setIfInBounds_toArray, List.set_cons_succ, List.set_cons_zero]
                  replace hM : Ms w wx (blk (π.1) [.string (s)] 9 :: row 9 1 (.slice none 0 0) (0) ([]) :: bg p7 (q + 1) (((r + 1 : Nat) : Int)) (j) (L ++ [(i, s)]) :: blk (wr.heap.size) (([.int .i64 (k), .int .i64 (i), .string (s)] : List Value)) 32 :: mp kI (w6.heap.size) (S) :: lrows L S) := hM
                  exact gw rfl (g_apS _ _ (.slice none (0) (0)) (0) ([]) (π.1) 1 ([.string (s)]) 9 rfl rfl (show Ms w wx (row 9 1 (.slice none 0 0) (0) ([]) :: blk (π.1) [.string (s)] 9 :: bg p7 (q + 1) (((r + 1 : Nat) : Int)) (j) (L ++ [(i, s)]) :: blk (wr.heap.size) (([.int .i64 (k), .int .i64 (i), .string (s)] : List Value)) 32 :: mp kI (w6.heap.size) (S) :: lrows L S) from (hM.up 1 rfl)) rfl (by simp [Value.oneCell']) (by omega) (fun g_0 w' h_ => ⟨(π.1, g_0), rfl, fun i h1 h2 => by rcases i with _ | _ | _ | _ | _ | _ | _ | _ | _ | _ | _ | _ | i <;> first | rfl | trivial | exact absurd rfl h2 | exact absurd h1 (by decide), h_⟩))
                · obtain rfl := Option.some.inj hj_
                  obtain rfl := Option.some.inj ho_
                  simp only [fullL, Act.put, List.setIfInBounds_toArray, List.set_cons_succ, List.set_cons_zero]
                  replace hM : Ms w wx (row 9 1 π.2 (0 + 1) ([] ++ [.string (s)]) :: blk (π.1) [.string (s)] 9 :: bg p7 (q + 1) (((r + 1 : Nat) : Int)) (j) (L ++ [(i, s)]) :: blk (wr.heap.size) (([.int .i64 (k), .int .i64 (i), .string (s)] : List Value)) 32 :: mp kI (w6.heap.size) (S) :: lrows L S) := hM
                  exact gw rfl (g_mup keyI Try.underlying47 _ _ _ (i) (π.2) rfl rfl rfl (show Ms w wx (mp kI (w6.heap.size) (S) :: row 9 1 π.2 (0 + 1) ([] ++ [.string (s)]) :: blk (π.1) [.string (s)] 9 :: bg p7 (q + 1) (((r + 1 : Nat) : Int)) (j) (L ++ [(i, s)]) :: blk (wr.heap.size) (([.int .i64 (k), .int .i64 (i), .string (s)] : List Value)) 32 :: lrows L S) from (hM.up 4 rfl)) (fun  w' h_ => ⟨(π.1, π.2), rfl, fun i h1 h2 => by rcases i with _ | _ | _ | _ | _ | _ | _ | _ | _ | _ | _ | _ | i <;> first | rfl | trivial | exact absurd rfl h2 | exact absurd h1 (by decide), h_⟩))
                · simp at hj_
              · intro i_ o_ ho_ hi_ j_ hd_ hh_ hj_ π wx hM
                simp only [fullL, Act.put, List.setIfInBounds_toArray, List.set_cons_succ, List.set_cons_zero]
                rcases i_ with _ | _ | _ | _ | _ | _ | _ | _ | _ | _ | _ | _ | i_
                · obtain rfl := Option.some.inj ho_
                  exact gw rfl (g_move _ (.map (some (w6.heap.size))) rfl ⟨rfl, hM⟩)
                · obtain rfl := Option.some.inj ho_
                  exact gw rfl (g_fa 32 _ (wr.heap.size) (0) (1) 1 rfl (fa32_1 _ _ _) ⟨rfl, hM⟩)
                · obtain rfl := Option.some.inj ho_
                  rcases j_ with _ | _ | _ | _ | j_
                  · replace hM : Ms w wx (row 9 1 (.slice none 0 0) (0) ([]) :: bg p7 (q + 1) (((r + 1 : Nat) : Int)) (j) (L ++ [(i, s)]) :: blk (wr.heap.size) (([.int .i64 (k), .int .i64 (i), .string (s)] : List Value)) 32 :: mp kI (w6.heap.size) (S) :: lrows L S) := hM
                    exact gw rfl (g_ld1 3 _ (wr.heap.size) 1 _ rfl (ld3 _ _ _ _ ((hM.get 2 rfl).cell 1 _ rfl)) ⟨rfl, hM⟩)
                  · replace hM : Ms w wx (blk (π.1) [.string (s)] 9 :: row 9 1 (.slice none 0 0) (0) ([]) :: bg p7 (q + 1) (((r + 1 : Nat) : Int)) (j) (L ++ [(i, s)]) :: blk (wr.heap.size) (([.int .i64 (k), .int .i64 (i), .string (s)] : List Value)) 32 :: mp kI (w6.heap.size) (S) :: lrows L S) := hM
                    exact gw rfl (g_ld1 3 _ (wr.heap.size) 1 _ rfl (ld3 _ _ _ _ ((hM.get 3 rfl).cell 1 _ rfl)) ⟨rfl, hM⟩)
                  · replace hM : Ms w wx (row 9 1 π.2 (0 + 1) ([] ++ [.string (s)]) :: blk (π.1) [.string (s)] 9 :: bg p7 (q + 1) (((r + 1 : Nat) : Int)) (j) (L ++ [(i, s)]) :: blk (wr.heap.size) (([.int .i64 (k), .int .i64 (i), .string (s)] : List Value)) 32 :: mp kI (w6.heap.size) (S) :: lrows L S) := hM
                    exact gw rfl (g_ld1 3 _ (wr.heap.size) 1 _ rfl (ld3 _ _ _ _ ((hM.get 3 rfl).cell 1 _ rfl)) ⟨rfl, hM⟩)
                  · exact absurd hh_ (by decide)
                  · exact absurd hj_ (by simp)
                · obtain rfl := Option.some.inj ho_
                  exact gw rfl (g_move _ (.map (some (w6.heap.size))) rfl ⟨rfl, hM⟩)
                · obtain rfl := Option.some.inj ho_
                  exact gw rfl (g_fa 32 _ (wr.heap.size) (0) (1) 1 rfl (fa32_1 _ _ _) ⟨rfl, hM⟩)
                · obtain rfl := Option.some.inj ho_
                  rcases j_ with _ | _ | _ | _ | j_
                  · replace hM : Ms w wx (row 9 1 (.slice none 0 0) (0) ([]) :: bg p7 (q + 1) (((r + 1 : Nat) : Int)) (j) (L ++ [(i, s)]) :: blk (wr.heap.size) (([.int .i64 (k), .int .i64 (i), .string (s)] : List Value)) 32 :: mp kI (w6.heap.size) (S) :: lrows L S) := hM
                    exact gw rfl (g_ld1 3 _ (wr.heap.size) 1 _ rfl (ld3 _ _ _ _ ((hM.get 2 rfl).cell 1 _ rfl)) ⟨rfl, hM⟩)
                  · replace hM : Ms w wx (blk (π.1) [.string (s)] 9 :: row 9 1 (.slice none 0 0) (0) ([]) :: bg p7 (q + 1) (((r + 1 : Nat) : Int)) (j) (L ++ [(i, s)]) :: blk (wr.heap.size) (([.int .i64 (k), .int .i64 (i), .string (s)] : List Value)) 32 :: mp kI (w6.heap.size) (S) :: lrows L S) := hM
                    exact gw rfl (g_ld1 3 _ (wr.heap.size) 1 _ rfl (ld3 _ _ _ _ ((hM.get 3 rfl).cell 1 _ rfl)) ⟨rfl, hM⟩)
                  · replace hM : Ms w wx (row 9 1 π.2 (0 + 1) ([] ++ [.string (s)]) :: blk (π.1) [.string (s)] 9 :: bg p7 (q + 1) (((r + 1 : Nat) : Int)) (j) (L ++ [(i, s)]) :: blk (wr.heap.size) (([.int .i64 (k), .int .i64 (i), .string (s)] : List Value)) 32 :: mp kI (w6.heap.size) (S) :: lrows L S) := hM
                    exact gw rfl (g_ld1 3 _ (wr.heap.size) 1 _ rfl (ld3 _ _ _ _ ((hM.get 3 rfl).cell 1 _ rfl)) ⟨rfl, hM⟩)
                  · exact absurd hh_ (by decide)
                  · exact absurd hj_ (by simp)
                · obtain rfl := Option.some.inj ho_
                  rcases j_ with _ | _ | _ | _ | j_
                  · replace hM : Ms w wx (row 9 1 (.slice none 0 0) (0) ([]) :: bg p7 (q + 1) (((r + 1 : Nat) : Int)) (j) (L ++ [(i, s)]) :: blk (wr.heap.size) (([.int .i64 (k), .int .i64 (i), .string (s)] : List Value)) 32 :: mp kI (w6.heap.size) (S) :: lrows L S) := hM
                    exact gw rfl (g_look keyI Try.underlying47 Try.zeroValue36 _ _ (i) (.slice none (0) (0)) rfl rfl (show Ms w _ (mp kI (w6.heap.size) (S) :: row 9 1 (.slice none 0 0) (0) ([]) :: bg p7 (q + 1) (((r + 1 : Nat) : Int)) (j) (L ++ [(i, s)]) :: blk (wr.heap.size) (([.int .i64 (k), .int .i64 (i), .string (s)] : List Value)) 32 :: lrows L S) from (hM.up 3 rfl)) (by rw [mlook_none hin]; rfl) ⟨rfl, hM⟩)
                  · replace hM : Ms w wx (blk (π.1) [.string (s)] 9 :: row 9 1 (.slice none 0 0) (0) ([]) :: bg p7 (q + 1) (((r + 1 : Nat) : Int)) (j) (L ++ [(i, s)]) :: blk (wr.heap.size) (([.int .i64 (k), .int .i64 (i), .string (s)] : List Value)) 32 :: mp kI (w6.heap.size) (S) :: lrows L S) := hM
                    exact gw rfl (g_look keyI Try.underlying47 Try.zeroValue36 _ _ (i) (.slice none (0) (0)) rfl rfl (show Ms w _ (mp kI (w6.heap.size) (S) :: blk (π.1) [.string (s)] 9 :: row 9 1 (.slice none 0 0) (0) ([]) :: bg p7 (q + 1) (((r + 1 : Nat) : Int)) (j) (L ++ [(i, s)]) :: blk (wr.heap.size) (([.int .i64 (k), .int .i64 (i), .string (s)] : List Value)) 32 :: lrows L S) from (hM.up 4 rfl)) (by rw [mlook_none hin]; rfl) ⟨rfl, hM⟩)
                  · exact absurd hh_ (by decide)
                  · exact absurd hh_ (by decide)
                  · exact absurd hj_ (by simp)
                · obtain rfl := Option.some.inj ho_
                  exact gw rfl (g_fa 32 _ (wr.heap.size) (0) (2) 2 rfl (fa32_2 _ _ _) ⟨rfl, hM⟩)
                · obtain rfl := Option.some.inj ho_
                  rcases j_ with _ | _ | _ | _ | j_
                  · replace hM : Ms w wx (row 9 1 (.slice none 0 0) (0) ([]) :: bg p7 (q + 1) (((r + 1 : Nat) : Int)) (j) (L ++ [(i, s)]) :: blk (wr.heap.size) (([.int .i64 (k), .int .i64 (i), .string (s)] : List Value)) 32 :: mp kI (w6.heap.size) (S) :: lrows L S) := hM
                    exact gw rfl (g_ld1 9 _ (wr.heap.size) 2 _ rfl (ld9 _ _ _ _ ((hM.get 2 rfl).cell 2 _ rfl)) ⟨rfl, hM⟩)
                  · exact absurd hh_ (by decide)
                  · exact absurd hh_ (by decide)
                  · exact absurd hh_ (by decide)
                  · exact absurd hj_ (by simp)
                · exact absurd (by decide) hi_
                · exact absurd (by decide) hi_
                · exact absurd (by decide) hi_
                · simp at ho_
              · simp only [fullL, Act.put, List.setIfInBounds_toArray, List.set_cons_succ, List.set_cons_zero]
                rintro ⟨p54, v55⟩ w53 hM
                replace hM : Ms w w53 (mp kI (w6.heap.size) (mput (S) (i) (v55)) :: row 9 1 v55 (0 + 1) ([] ++ [.string (s)]) :: blk (p54) [.string (s)] 9 :: bg p7 (q + 1) (((r + 1 : Nat) : Int)) (j) (L ++ [(i, s)]) :: blk (wr.heap.size) (([.int .i64 (k), .int .i64 (i), .string (s)] : List Value)) 32 :: lrows L S) := hM
                refine hK36 _ _ ?_
                (try clear hK36 K36)
                refine wl_region ?_
                refine wl_give rfl (g_move _ (.int .i64 (((j : Nat) : Int))) rfl ?_)
                (try simp only [Act.put, List.setIfInBounds_toArray, List.set_cons_zero, List.set_cons_succ])
                refine wl_give rfl (g_ia 3 _ _ .i64 (((j : Nat) : Int)) (1) (((j + 1 : Nat) : Int)) rfl rfl (hj1.out) ?_)
                (try simp only [Act.put, List.setIfInBounds_toArray, List.set_cons_zero, List.set_cons_succ])
                refine wl_give rfl (g_assign _ (.int .i64 (((j + 1 : Nat) : Int))) rfl ?_)
                (try simp only [Act.put, List.setIfInBounds_toArray, List.set_cons_zero, List.set_cons_succ])
                refine wl_nil ?_
                (try simp only [Exit.then, Exit.inBlock, ↓reduceIte, Nat.reduceEqDiff])
                have h9 : Ms w w53 (bg p7 (q + 1) (((r + 1 : Nat) : Int)) (j) (L ++ [(i, s)]) :: row 9 1 v55 (0 + 1) ([] ++ [.string (s)]) :: mp kI (w6.heap.size) (mput (S) (i) (v55)) :: blk (p54) [.string (s)] 9 :: blk (wr.heap.size) (([.int .i64 (k), .int .i64 (i), .string (s)] : List Value)) 32 :: lrows L S) := (((((hM.up 4 rfl).up 3 rfl).up 2 rfl).up 3 rfl).up 4 rfl)
                have e1 := mput_new (v := v55) hin
                have h8 := bg_more (Nat.le_succ j) ((h9.erase 4).erase 3)
                rw [e1] at h8
                have hne : ∀ z ∈ S ++ [], z.1 ≠ i := fun z hz e => hin (List.mem_map.2 ⟨z, by simpa using hz, e⟩)
                have e3 : ofI i (L ++ [(i, s)]) = [] ++ [s] := by rw [ofI_snoc, if_pos rfl, hofn]
                have e4 : lrows L S = lrows (L ++ [(i, s)]) S := (lrows_same fun z hz => by rw [ofI_snoc, if_neg (Ne.symm (hne z (List.mem_append_left _ hz))), List.append_nil]).symm
                have e5 : lrows L [] = lrows (L ++ [(i, s)]) [] := (lrows_same fun z hz => by rw [ofI_snoc, if_neg (Ne.symm (hne z (List.mem_append_right _ hz))), List.append_nil]).symm
                rw [show lrows L S = lrows L S ++ lrows L [] from (List.append_nil _).symm, e4, e5] at h8
                have h7 : Ms w w53 (lrow (L ++ [(i, s)]) (i, v55) :: ([bg p7 (q + 1) (((r + 1 : Nat) : Int)) (j + 1) (L ++ [(i, s)]), mp kI (w6.heap.size) (S ++ (i, v55) :: [])] ++ (lrows (L ++ [(i, s)]) S ++ lrows (L ++ [(i, s)]) []))) := by
                  unfold lrow; rw [e3, List.map_append, List.length_append]; exact h8.up 1 rfl
                exact ⟨m - 1, by omega, j + 1, _, _, (tl [.int .u8 (a), .int .u8 (c), .slice (some ⟨b, o, none⟩) (n) (cap), undef, undef, undef, .bool false, .pointer (some ⟨p7, 0, none⟩), .int .i64 (0), .map (some (w6.heap.size)), .int .i64 (((j + 1 : Nat) : Int)), .pointer (some ⟨wr.heap.size, 0, none⟩), t 12, t 13, t 14, undef, undef, .bool true, .bool false, .tuple #[.pointer (some ⟨p7, 0, none⟩), .int .i64 (0)], .int .u8 (a), .int .u8 (((q : Nat) : Int)), .int .i64 (((q : Nat) : Int)), .int .i64 (((q + 1 : Nat) : Int)), .int .u8 (c), .int .u8 (((r : Nat) : Int)), .int .i64 (((r : Nat) : Int)), .int .i64 (((r + 1 : Nat) : Int)), .tuple #[.pointer (some ⟨p7, 0, none⟩), .int .i64 (0)], .pointer (some ⟨p7, 0, none⟩), .int .i64 (0), .pointer (some ⟨p7, 0, none⟩), .bool false, .map (some (w6.heap.size)), .int .i64 (((j : Nat) : Int)), .slice (some ⟨b, o, none⟩) (n) (cap), .int .i64 (((n : Nat) : Int)), .bool true, .bool true, .int .i64 (((j : Nat) : Int)), .bool true, .bool true, .int .i64 (((j : Nat) : Int)), .int .i64 (((j + 1 : Nat) : Int)), .slice (some ⟨b, o, none⟩) (n) (cap), .int .i64 (((j : Nat) : Int)), .pointer (some ⟨b, o + j * 3, none⟩), .agg (([.int .i64 (k), .int .i64 (i), .string (s)] : List Value)).toArray, .agg (([.int .i64 (k), .int .i64 (i), .string (s)] : List Value)).toArray, .bool false, .pointer (some ⟨wr.heap.size, 0, none⟩), .int .i64 (k), .bool true, .bool true, .pointer (some ⟨p7, 0, none⟩), .pointer (some ⟨wr.heap.size, 1, none⟩), .int .i64 (i), .pointer (some ⟨wr.heap.size, 2, none⟩), .string (s), .int .i64 (0), .bool true, .map (some (w6.heap.size)), .pointer (some ⟨wr.heap.size, 1, none⟩), .int .i64 (i), .map (some (w6.heap.size)), .pointer (some ⟨wr.heap.size, 1, none⟩), .int .i64 (i), .slice none (0) (0), .pointer (some ⟨wr.heap.size, 2, none⟩), .string (s), .slice (some ⟨p54, 0, none⟩) (1) (1), v55, t 72, t 73, t 74, t 75, t 76, t 77, t 78, t 79, t 80, t 81, t 82, t 83, t 84, t 85, t 86, t 87, t 88, t 89, t 90, t 91, t 92, t 93, t 94, t 95, t 96, t 97, t 98, t 99, t 100, t 101, t 102, t 103, t 104, t 105, t 106, t 107, t 108, t 109, t 110, t 111, undef, undef, undef, undef, undef, undef, undef, undef, undef, undef, undef, undef, undef, undef, undef, undef, undef, undef, undef, undef, undef, undef]), rfl, by omega, ⟨on_new hI.out s⟩, lb [_, _] h7⟩
          · skip
            refine wp_seq_k (fun K56 hK56 => ?_)
            refine wl_region ?_
            refine wl_give rfl (g_ieq 3 _ _ .i64 (k) (0) true rfl rfl (decide_eq_true hk0) ?_)
            (try simp only [Act.put, List.setIfInBounds_toArray, List.set_cons_zero, List.set_cons_succ])
            refine wl_give rfl (g_assign _ (.bool true) rfl ?_)
            (try simp only [Act.put, List.setIfInBounds_toArray, List.set_cons_zero, List.set_cons_succ])
            refine wl_nil ?_
            refine hK56 _ _ ?_
            (try clear hK56 K56)
            refine wp_cond_true rfl ?_
            refine wp_seq_k (fun K57 hK57 => ?_)
            refine wl_region ?_
            refine wl_give rfl (g_move _ (.pointer (some ⟨p7, 0, none⟩)) rfl ?_)
            (try simp only [Act.put, List.setIfInBounds_toArray, List.set_cons_zero, List.set_cons_succ])
            refine wl_give rfl (g_fa 32 _ (wr.heap.size) (0) (1) 1 rfl (fa32_1 _ _ _) ?_)
            (try simp only [Act.put, List.setIfInBounds_toArray, List.set_cons_zero, List.set_cons_succ])
            refine wl_give rfl (g_ld1 3 _ (wr.heap.size) 1 _ rfl (ld3 _ _ _ _ ((hM.get 0 rfl).cell 1 _ rfl)) ?_)
            (try simp only [Act.put, List.setIfInBounds_toArray, List.set_cons_zero, List.set_cons_succ])
            refine wl_give rfl (g_fa 32 _ (wr.heap.size) (0) (2) 2 rfl (fa32_2 _ _ _) ?_)
            (try simp only [Act.put, List.setIfInBounds_toArray, List.set_cons_zero, List.set_cons_succ])
            refine wl_give rfl (g_ld1 9 _ (wr.heap.size) 2 _ rfl (ld9 _ _ _ _ ((hM.get 0 rfl).cell 2 _ rfl)) ?_)
            (try simp only [Act.put, List.setIfInBounds_toArray, List.set_cons_zero, List.set_cons_succ])
            refine wl_give rfl (g_call 14 _ _ [.pointer (some ⟨p7, 0, none⟩), .int .i64 (i), .string (s)] (kf14 _ _) rfl ((gput_n (show Ms w w45 (bg p7 (q + 1) (((r + 1 : Nat) : Int)) (j) (L) :: blk (wr.heap.size) (([.int .i64 (k), .int .i64 (i), .string (s)] : List Value)) 32 :: mp kI (w6.heap.size) (S) :: lrows L S) from (hM.up 1 rfl)) (by omega) (by omega) hik (by omega) ⟨he⟩ he0).mono ?_))
            rintro e w58 ⟨rfl, h_⟩
            refine ⟨_, rfl, ?_⟩
            replace hM : Ms w w58 (bg p7 (q + 1) (((r + 1 : Nat) : Int)) (j + 1) (L) :: blk (wr.heap.size) (([.int .i64 (k), .int .i64 (i), .string (s)] : List Value)) 32 :: mp kI (w6.heap.size) (S) :: lrows L S) := h_
            clear h_
            (try simp only [Act.put, List.setIfInBounds_toArray, List.set_cons_zero, List.set_cons_succ])
            refine wl_give rfl (g_ieq 25 _ _ .i64 (e) (0) false rfl rfl (decide_eq_false he0) ?_)
            (try simp only [Act.put, List.setIfInBounds_toArray, List.set_cons_zero, List.set_cons_succ])
            refine wl_nil ?_
            refine hK57 _ _ ?_
            (try clear hK57 K57)
            refine wp_cond_false rfl ?_
            refine wp_skip ?_
            refine hK36 _ _ ?_
            (try clear hK36 K36)
            refine wl_region ?_
            refine wl_give rfl (g_move _ (.int .i64 (((j : Nat) : Int))) rfl ?_)
            (try simp only [Act.put, List.setIfInBounds_toArray, List.set_cons_zero, List.set_cons_succ])
            refine wl_give rfl (g_ia 3 _ _ .i64 (((j : Nat) : Int)) (1) (((j + 1 : Nat) : Int)) rfl rfl (hj1.out) ?_)
            (try simp only [Act.put, List.setIfInBounds_toArray, List.set_cons_zero, List.set_cons_succ])
            refine wl_give rfl (g_assign _ (.int .i64 (((j + 1 : Nat) : Int))) rfl ?_)
            (try simp only [Act.put, List.setIfInBounds_toArray, List.set_cons_zero, List.set_cons_succ])
            refine wl_nil ?_
            (try simp only [Exit.then, Exit.inBlock, ↓reduceIte, Nat.reduceEqDiff])
            have h9 : Ms w w58 (bg p7 (q + 1) (((r + 1 : Nat) : Int)) (j + 1) (L) :: mp kI (w6.heap.size) (S) :: blk (wr.heap.size) (([.int .i64 (k), .int .i64 (i), .string (s)] : List Value)) 32 :: lrows L S) := (((hM.up 1 rfl).up 2 rfl).up 2 rfl)
            exact ⟨m - 1, by omega, j + 1, _, _, (tl [.int .u8 (a), .int .u8 (c), .slice (some ⟨b, o, none⟩) (n) (cap), undef, undef, undef, .bool false, .pointer (some ⟨p7, 0, none⟩), .int .i64 (0), .map (some (w6.heap.size)), .int .i64 (((j + 1 : Nat) : Int)), .pointer (some ⟨wr.heap.size, 0, none⟩), t 12, t 13, t 14, undef, undef, .bool true, .bool false, .tuple #[.pointer (some ⟨p7, 0, none⟩), .int .i64 (0)], .int .u8 (a), .int .u8 (((q : Nat) : Int)), .int .i64 (((q : Nat) : Int)), .int .i64 (((q + 1 : Nat) : Int)), .int .u8 (c), .int .u8 (((r : Nat) : Int)), .int .i64 (((r : Nat) : Int)), .int .i64 (((r + 1 : Nat) : Int)), .tuple #[.pointer (some ⟨p7, 0, none⟩), .int .i64 (0)], .pointer (some ⟨p7, 0, none⟩), .int .i64 (0), .pointer (some ⟨p7, 0, none⟩), .bool false, .map (some (w6.heap.size)), .int .i64 (((j : Nat) : Int)), .slice (some ⟨b, o, none⟩) (n) (cap), .int .i64 (((n : Nat) : Int)), .bool true, .bool true, .int .i64 (((j : Nat) : Int)), .bool true, .bool true, .int .i64 (((j : Nat) : Int)), .int .i64 (((j + 1 : Nat) : Int)), .slice (some ⟨b, o, none⟩) (n) (cap), .int .i64 (((j : Nat) : Int)), .pointer (some ⟨b, o + j * 3, none⟩), .agg (([.int .i64 (k), .int .i64 (i), .string (s)] : List Value)).toArray, .agg (([.int .i64 (k), .int .i64 (i), .string (s)] : List Value)).toArray, .bool false, .pointer (some ⟨wr.heap.size, 0, none⟩), .int .i64 (k), .bool true, .bool true, .pointer (some ⟨p7, 0, none⟩), .pointer (some ⟨wr.heap.size, 1, none⟩), .int .i64 (i), .pointer (some ⟨wr.heap.size, 2, none⟩), .string (s), .int .i64 (e), .bool false, t 61, t 62, t 63, t 64, t 65, t 66, t 67, t 68, t 69, t 70, t 71, t 72, t 73, t 74, t 75, t 76, t 77, t 78, t 79, t 80, t 81, t 82, t 83, t 84, t 85, t 86, t 87, t 88, t 89, t 90, t 91, t 92, t 93, t 94, t 95, t 96, t 97, t 98, t 99, t 100, t 101, t 102, t 103, t 104, t 105, t 106, t 107, t 108, t 109, t 110, t 111, undef, undef, undef, undef, undef, undef, undef, undef, undef, undef, undef, undef, undef, undef, undef, undef, undef, undef, undef, undef, undef, undef]), rfl, by omega, ⟨on_same hI.out⟩, bg_more (by omega) (h9.erase 2)⟩
        by_cases hk1 : k = 1
        · skip
          refine wp_seq_k (fun K59 hK59 => ?_)
          refine wl_region ?_
          refine wl_give rfl (g_ieq 3 _ _ .i64 (k) (0) false rfl rfl (decide_eq_false hk0) ?_)
          (try simp only [Act.put, List.setIfInBounds_toArray, List.set_cons_zero, List.set_cons_succ])
          refine wl_give rfl (g_assign _ (.bool false) rfl ?_)
          (try simp only [Act.put, List.setIfInBounds_toArray, List.set_cons_zero, List.set_cons_succ])
          refine wl_nil ?_
          refine hK59 _ _ ?_
          (try clear hK59 K59)
          refine wp_cond_false rfl ?_
          refine wp_seq_k (fun K60 hK60 => ?_)
          refine wl_region ?_
          refine wl_give rfl (g_ieq 3 _ _ .i64 (k) (1) true rfl rfl (decide_eq_true hk1) ?_)
          (try simp only [Act.put, List.setIfInBounds_toArray, List.set_cons_zero, List.set_cons_succ])
          refine wl_give rfl (g_assign _ (.bool true) rfl ?_)
          (try simp only [Act.put, List.setIfInBounds_toArray, List.set_cons_zero, List.set_cons_succ])
          refine wl_nil ?_
          refine hK60 _ _ ?_
          (try clear hK60 K60)
          refine wp_cond_true rfl ?_
          refine wp_seq_k (fun K61 hK61 => ?_)
          by_cases hin : i ∈ S.map (·.1)
          · skip
            obtain ⟨S1, v, S2, rfl⟩ := mid_at hin
            have h9 := lf [_, _, _] hM
            have hne := mid_ne hnd
            replace hM : Ms w w45 (row 9 1 v ((ofI i L).length) ((ofI i L).map Value.string) :: blk (wr.heap.size) (([.int .i64 (k), .int .i64 (i), .string (s)] : List Value)) 32 :: bg p7 (q + 1) (((r + 1 : Nat) : Int)) (j) (L) :: mp kI (w6.heap.size) (S1 ++ (i, v) :: S2) :: (lrows L S1 ++ lrows L S2)) := h9
            clear h9
            refine wp_seq_k (fun K62 hK62 => ?_)
            refine wp_region_steps (by kernel_rfl) (by kernel_rfl) [3, 8] [0, 0, 0, 0, 0, 0, 0, 0, 1, 2] [0, 2, 0, 1, 2, 2, 2, 1, 2, 2] (by kernel_rfl) (Pm := Option Addr × Nat) (fun π => [.pointer (some ⟨p7, 0, none⟩), .pointer (some ⟨wr.heap.size, 1, none⟩), .int .i64 (i), .slice π.1 ((ofI i L).length) (π.2), .map (some (w6.heap.size)), .pointer (some ⟨wr.heap.size, 1, none⟩), .int .i64 (i), v, .bool true, .bool false]) (fun _ => by rfl) (fun j_ π wx => match j_ with | 0 => Ms w wx (row 9 1 v ((ofI i L).length) ((ofI i L).map Value.string) :: blk (wr.heap.size) (([.int .i64 (k), .int .i64 (i), .string (s)] : List Value)) 32 :: bg p7 (q + 1) (((r + 1 : Nat) : Int)) (j) (L) :: mp kI (w6.heap.size) (S1 ++ (i, v) :: S2) :: (lrows L S1 ++ lrows L S2)) | 1 => Ms w wx (row 9 1 (.slice π.1 ((ofI i L).length) π.2) ((ofI i L).length) ((ofI i L).map Value.string) :: bg p7 (q + 1) (((r + 1 : Nat) : Int)) (j) (notI i L) :: row 9 1 v ((ofI i L).length) ((ofI i L).map Value.string) :: blk (wr.heap.size) (([.int .i64 (k), .int .i64 (i), .string (s)] : List Value)) 32 :: mp kI (w6.heap.size) (S1 ++ (i, v) :: S2) :: (lrows L S1 ++ lrows L S2)) | _ => Ms w wx (row 9 1 (.slice π.1 ((ofI i L).length) π.2) ((ofI i L).length) ((ofI i L).map Value.string) :: row 9 1 v ((ofI i L).length) ((ofI i L).map Value.string) :: bg p7 (q + 1) (((r + 1 : Nat) : Int)) (j) (notI i L) :: blk (wr.heap.size) (([.int .i64 (k), .int .i64 (i), .string (s)] : List Value)) 32 :: mp kI (w6.heap.size) (S1 ++ (i, v) :: S2) :: (lrows L S1 ++ lrows L S2))) (none, 0) hM.drew ?_ ?_ ?_
            · intro j_ k_ o_ hj_ ho_ π wx hM
              rcases j_ with _ | _ | j_
              · obtain rfl := Option.some.inj hj_
                obtain rfl := Option.some.inj ho_
                simp only [fullL, Act.put, List.setIfInBounds_toArray, List.set_cons_succ, List.set_cons_zero]
                replace hM : Ms w wx (row 9 1 v ((ofI i L).length) ((ofI i L).map Value.string) :: blk (wr.heap.size) (([.int .i64 (k), .int .i64 (i), .string (s)] : List Value)) 32 :: bg p7 (q + 1) (((r + 1 : Nat) : Int)) (j) (L) :: mp kI (w6.heap.size) (S1 ++ (i, v) :: S2) :: (lrows L S1 ++ lrows L S2)) := hM
                exact gw rfl (g_call 17 _ _ [.pointer (some ⟨p7, 0, none⟩), .int .i64 (i)] (kf17 _ _) rfl ((to_row (gtake (ts := ofI i L) (L' := notI i L) (show Ms w wx (bg p7 (q + 1) (((r + 1 : Nat) : Int)) (j) (L) :: row 9 1 v ((ofI i L).length) ((ofI i L).map Value.string) :: blk (wr.heap.size) (([.int .i64 (k), .int .i64 (i), .string (s)] : List Value)) 32 :: mp kI (w6.heap.size) (S1 ++ (i, v) :: S2) :: (lrows L S1 ++ lrows L S2)) from (hM.up 2 rfl)) (by omega) (rfl) (rfl))).mono (fun e w' ⟨g_0, g_1, h1_, h2_⟩ => ⟨_, h1_, ⟨(g_0, g_1), rfl, fun i h1 h2 => by rcases i with _ | _ | _ | _ | _ | _ | _ | _ | _ | _ | i <;> first | rfl | trivial | exact absurd rfl h2 | exact absurd h1 (by decide), h2_⟩⟩)))
              · obtain rfl := Option.some.inj hj_
                obtain rfl := Option.some.inj ho_
                simp only [fullL, Act.put, List.setIfInBounds_toArray, List.set_cons_succ, List.set_cons_zero]
                replace hM : Ms w wx (row 9 1 (.slice π.1 ((ofI i L).length) π.2) ((ofI i L).length) ((ofI i L).map Value.string) :: bg p7 (q + 1) (((r + 1 : Nat) : Int)) (j) (notI i L) :: row 9 1 v ((ofI i L).length) ((ofI i L).map Value.string) :: blk (wr.heap.size) (([.int .i64 (k), .int .i64 (i), .string (s)] : List Value)) 32 :: mp kI (w6.heap.size) (S1 ++ (i, v) :: S2) :: (lrows L S1 ++ lrows L S2)) := hM
                exact gw rfl (g_call 16 _ _ [.slice π.1 ((ofI i L).length) (π.2), v] (kf16 _ _) rfl ((texts_any (xs := ofI i L) (ys := ofI i L) (r := true) (show Ms w wx (row 9 1 (.slice π.1 ((ofI i L).length) π.2) ((ofI i L).length) ((ofI i L).map Value.string) :: row 9 1 v ((ofI i L).length) ((ofI i L).map Value.string) :: bg p7 (q + 1) (((r + 1 : Nat) : Int)) (j) (notI i L) :: blk (wr.heap.size) (([.int .i64 (k), .int .i64 (i), .string (s)] : List Value)) 32 :: mp kI (w6.heap.size) (S1 ++ (i, v) :: S2) :: (lrows L S1 ++ lrows L S2)) from ((hM.up 2 rfl).up 1 rfl)) (by have := ofI_le i L; omega) (decide_eq_true rfl)).mono (fun e w' ⟨h1_, h2_⟩ => ⟨_, h1_, ⟨(π.1, π.2), rfl, fun i h1 h2 => by rcases i with _ | _ | _ | _ | _ | _ | _ | _ | _ | _ | i <;> first | rfl | trivial | exact absurd rfl h2 | exact absurd h1 (by decide), h2_⟩⟩)))
              · simp at hj_
            · intro i_ o_ ho_ hi_ j_ hd_ hh_ hj_ π wx hM
              simp only [fullL, Act.put, List.setIfInBounds_toArray, List.set_cons_succ, List.set_cons_zero]
              rcases i_ with _ | _ | _ | _ | _ | _ | _ | _ | _ | _ | i_
              · obtain rfl := Option.some.inj ho_
                exact gw rfl (g_move _ (.pointer (some ⟨p7, 0, none⟩)) rfl ⟨rfl, hM⟩)
              · obtain rfl := Option.some.inj ho_
                exact gw rfl (g_fa 32 _ (wr.heap.size) (0) (1) 1 rfl (fa32_1 _ _ _) ⟨rfl, hM⟩)
              · obtain rfl := Option.some.inj ho_
                rcases j_ with _ | _ | _ | j_
                · replace hM : Ms w wx (row 9 1 v ((ofI i L).length) ((ofI i L).map Value.string) :: blk (wr.heap.size) (([.int .i64 (k), .int .i64 (i), .string (s)] : List Value)) 32 :: bg p7 (q + 1) (((r + 1 : Nat) : Int)) (j) (L) :: mp kI (w6.heap.size) (S1 ++ (i, v) :: S2) :: (lrows L S1 ++ lrows L S2)) := hM
                  exact gw rfl (g_ld1 3 _ (wr.heap.size) 1 _ rfl (ld3 _ _ _ _ ((hM.get 1 rfl).cell 1 _ rfl)) ⟨rfl, hM⟩)
                · exact absurd hh_ (by decide)
                · exact absurd hh_ (by decide)
                · exact absurd hj_ (by simp)
              · exact absurd (by decide) hi_
              · obtain rfl := Option.some.inj ho_
                exact gw rfl (g_move _ (.map (some (w6.heap.size))) rfl ⟨rfl, hM⟩)
              · obtain rfl := Option.some.inj ho_
                exact gw rfl (g_fa 32 _ (wr.heap.size) (0) (1) 1 rfl (fa32_1 _ _ _) ⟨rfl, hM⟩)
              · obtain rfl := Option.some.inj ho_
                rcases j_ with _ | _ | _ | j_
                · replace hM : Ms w wx (row 9 1 v ((ofI i L).length) ((ofI i L).map Value.string) :: blk (wr.heap.size) (([.int .i64 (k), .int .i64 (i), .string (s)] : List Value)) 32 :: bg p7 (q + 1) (((r + 1 : Nat) : Int)) (j) (L) :: mp kI (w6.heap.size) (S1 ++ (i, v) :: S2) :: (lrows L S1 ++ lrows L S2)) := hM
                  exact gw rfl (g_ld1 3 _ (wr.heap.size) 1 _ rfl (ld3 _ _ _ _ ((hM.get 1 rfl).cell 1 _ rfl)) ⟨rfl, hM⟩)
                · replace hM : Ms w wx (row 9 1 (.slice π.1 ((ofI i L).length) π.2) ((ofI i L).length) ((ofI i L).map Value.string) :: bg p7 (q + 1) (((r + 1 : Nat) : Int)) (j) (notI i L) :: row 9 1 v ((ofI i L).length) ((ofI i L).map Value.string) :: blk (wr.heap.size) (([.int .i64 (k), .int .i64 (i), .string (s)] : List Value)) 32 :: mp kI (w6.heap.size) (S1 ++ (i, v) :: S2) :: (lrows L S1 ++ lrows L S2)) := hM
                  exact gw rfl (g_ld1 3 _ (wr.heap.size) 1 _ rfl (ld3 _ _ _ _ ((hM.get 3 rfl).cell 1 _ rfl)) ⟨rfl, hM⟩)
                · replace hM : Ms w wx (row 9 1 (.slice π.1 ((ofI i L).length) π.2) ((ofI i L).length) ((ofI i L).map Value.string) :: row 9 1 v ((ofI i L).length) ((ofI i L).map Value.string) :: bg p7 (q + 1) (((r + 1 : Nat) : Int)) (j) (notI i L) :: blk (wr.heap.size) (([.int .i64 (k), .int .i64 (i), .string (s)] : List Value)) 32 :: mp kI (w6.heap.size) (S1 ++ (i, v) :: S2) :: (lrows L S1 ++ lrows L S2)) := hM
                  exact gw rfl (g_ld1 3 _ (wr.heap.size) 1 _ rfl (ld3 _ _ _ _ ((hM.get 3 rfl).cell 1 _ rfl)) ⟨rfl, hM⟩)
                · exact absurd hj_ (by simp)
              · obtain rfl := Option.some.inj ho_
                rcases j_ with _ | _ | _ | j_
                · replace hM : Ms w wx (row 9 1 v ((ofI i L).length) ((ofI i L).map Value.string) :: blk (wr.heap.size) (([.int .i64 (k), .int .i64 (i), .string (s)] : List Value)) 32 :: bg p7 (q + 1) (((r + 1 : Nat) : Int)) (j) (L) :: mp kI (w6.heap.size) (S1 ++ (i, v) :: S2) :: (lrows L S1 ++ lrows L S2)) := hM
                  exact gw rfl (g_look keyI Try.underlying47 Try.zeroValue36 _ _ (i) (v) rfl rfl (show Ms w _ (mp kI (w6.heap.size) (S1 ++ (i, v) :: S2) :: row 9 1 v ((ofI i L).length) ((ofI i L).map Value.string) :: blk (wr.heap.size) (([.int .i64 (k), .int .i64 (i), .string (s)] : List Value)) 32 :: bg p7 (q + 1) (((r + 1 : Nat) : Int)) (j) (L) :: (lrows L S1 ++ lrows L S2)) from (hM.up 3 rfl)) (by rw [mid_look hnd]; rfl) ⟨rfl, hM⟩)
                · replace hM : Ms w wx (row 9 1 (.slice π.1 ((ofI i L).length) π.2) ((ofI i L).length) ((ofI i L).map Value.string) :: bg p7 (q + 1) (((r + 1 : Nat) : Int)) (j) (notI i L) :: row 9 1 v ((ofI i L).length) ((ofI i L).map Value.string) :: blk (wr.heap.size) (([.int .i64 (k), .int .i64 (i), .string (s)] : List Value)) 32 :: mp kI (w6.heap.size) (S1 ++ (i, v) :: S2) :: (lrows L S1 ++ lrows L S2)) := hM
                  exact gw rfl (g_look keyI Try.underlying47 Try.zeroValue36 _ _ (i) (v) rfl rfl (show Ms w _ (mp kI (w6.heap.size) (S1 ++ (i, v) :: S2) :: row 9 1 (.slice π.1 ((ofI i L).length) π.2) ((ofI i L).length) ((ofI i L).map Value.string) :: bg p7 (q + 1) (((r + 1 : Nat) : Int)) (j) (notI i L) :: row 9 1 v ((ofI i L).length) ((ofI i L).map Value.string) :: blk (wr.heap.size) (([.int .i64 (k), .int .i64 (i), .string (s)] : List Value)) 32 :: (lrows L S1 ++ lrows L S2)) from (hM.up 4 rfl)) (by rw [mid_look hnd]; rfl) ⟨rfl, hM⟩)
                · exact absurd hh_ (by decide)
                · exact absurd hj_ (by simp)
              · exact absurd (by decide) hi_
              · obtain rfl := Option.some.inj ho_
                exact gw rfl (g_unot 4 _ true rfl ⟨rfl, hM⟩)
              · simp at ho_
            · simp only [fullL, Act.put, List.setIfInBounds_toArray, List.set_cons_succ, List.set_cons_zero]
              rintro ⟨o64, p65⟩ w63 hM
              replace hM : Ms w w63 (row 9 1 (.slice o64 ((ofI i L).length) p65) ((ofI i L).length) ((ofI i L).map Value.string) :: row 9 1 v ((ofI i L).length) ((ofI i L).map Value.string) :: bg p7 (q + 1) (((r + 1 : Nat) : Int)) (j) (notI i L) :: blk (wr.heap.size) (([.int .i64 (k), .int .i64 (i), .string (s)] : List Value)) 32 :: mp kI (w6.heap.size) (S1 ++ (i, v) :: S2) :: (lrows L S1 ++ lrows L S2)) := hM
              refine hK62 _ _ ?_
              (try clear hK62 K62)
              refine wp_cond_false rfl ?_
              refine wp_skip ?_
              refine hK61 _ _ ?_
              (try clear hK61 K61)
              refine wl_region ?_
              refine wl_give rfl (g_move _ (.map (some (w6.heap.size))) rfl ?_)
              (try simp only [Act.put, List.setIfInBounds_toArray, List.set_cons_zero, List.set_cons_succ])
              refine wl_give rfl (g_fa 32 _ (wr.heap.size) (0) (1) 1 rfl (fa32_1 _ _ _) ?_)
              (try simp only [Act.put, List.setIfInBounds_toArray, List.set_cons_zero, List.set_cons_succ])
              refine wl_give rfl (g_ld1 3 _ (wr.heap.size) 1 _ rfl (ld3 _ _ _ _ ((hM.get 3 rfl).cell 1 _ rfl)) ?_)
              (try simp only [Act.put, List.setIfInBounds_toArray, List.set_cons_zero, List.set_cons_succ])
              refine wl_give rfl (g_mdel keyI Try.underlying47 _ _ (i) rfl rfl (show Ms w w63 (mp kI (w6.heap.size) (S1 ++ (i, v) :: S2) :: row 9 1 (.slice o64 ((ofI i L).length) p65) ((ofI i L).length) ((ofI i L).map Value.string) :: row 9 1 v ((ofI i L).length) ((ofI i L).map Value.string) :: bg p7 (q + 1) (((r + 1 : Nat) : Int)) (j) (notI i L) :: blk (wr.heap.size) (([.int .i64 (k), .int .i64 (i), .string (s)] : List Value)) 32 :: (lrows L S1 ++ lrows L S2)) from (hM.up 4 rfl)) ?_)
              intro w66 h_
              replace hM : Ms w w66 (mp kI (w6.heap.size) (mdel (S1 ++ (i, v) :: S2) (i)) :: row 9 1 (.slice o64 ((ofI i L).length) p65) ((ofI i L).length) ((ofI i L).map Value.string) :: row 9 1 v ((ofI i L).length) ((ofI i L).map Value.string) :: bg p7 (q + 1) (((r + 1 : Nat) : Int)) (j) (notI i L) :: blk (wr.heap.size) (([.int .i64 (k), .int .i64 (i), .string (s)] : List Value)) 32 :: (lrows L S1 ++ lrows L S2)) := h_
              clear h_
              (try simp only [Act.put, List.setIfInBounds_toArray, List.set_cons_zero, List.set_cons_succ])
              refine wl_nil ?_
              refine hK36 _ _ ?_
              (try clear hK36 K36)
              refine wl_region ?_
              refine wl_give rfl (g_move _ (.int .i64 (((j : Nat) : Int))) rfl ?_)
              (try simp only [Act.put, List.setIfInBounds_toArray, List.set_cons_zero, List.set_cons_succ])
              refine wl_give rfl (g_ia 3 _ _ .i64 (((j : Nat) : Int)) (1) (((j + 1 : Nat) : Int)) rfl rfl (hj1.out) ?_)
              (try simp only [Act.put, List.setIfInBounds_toArray, List.set_cons_zero, List.set_cons_succ])
              refine wl_give rfl (g_assign _ (.int .i64 (((j + 1 : Nat) : Int))) rfl ?_)
              (try simp only [Act.put, List.setIfInBounds_toArray, List.set_cons_zero, List.set_cons_succ])
              refine wl_nil ?_
              (try simp only [Exit.then, Exit.inBlock, ↓reduceIte, Nat.reduceEqDiff])
              have h9 : Ms w w66 (bg p7 (q + 1) (((r + 1 : Nat) : Int)) (j) (notI i L) :: mp kI (w6.heap.size) (mdel (S1 ++ (i, v) :: S2) (i)) :: row 9 1 (.slice o64 ((ofI i L).length) p65) ((ofI i L).length) ((ofI i L).map Value.string) :: row 9 1 v ((ofI i L).length) ((ofI i L).map Value.string) :: blk (wr.heap.size) (([.int .i64 (k), .int .i64 (i), .string (s)] : List Value)) 32 :: (lrows L S1 ++ lrows L S2)) := (((((hM.up 4 rfl).up 3 rfl).up 3 rfl).up 3 rfl).up 4 rfl)
              have e1 := mid_del hnd
              have h8 := (((h9.erase 4).erase 3).erase 2)
              rw [e1] at h8
              have e4 : lrows L S1 ++ lrows L S2 = lrows (notI i L) (S1 ++ S2) := by rw [← lrows_app]; exact (lrows_same fun z hz => by rw [ofI_notI, if_neg (hne z hz)]).symm
              rw [e4] at h8
              have hkk : ∀ k, k ∈ (S1 ++ S2).map (·.1) ↔ k ∈ (S1 ++ (i, v) :: S2).map (·.1) ∧ k ≠ i := fun k => by
                constructor
                · intro h6
                  obtain ⟨z, hz, rfl⟩ := List.mem_map.1 h6
                  refine ⟨List.mem_map.2 ⟨z, ?_, rfl⟩, hne z hz⟩
                  rcases List.mem_append.1 hz with h6 | h6
                  · exact List.mem_append_left _ h6
                  · exact List.mem_append_right _ (List.mem_cons_of_mem _ h6)
                · rintro ⟨h6, h7⟩
                  obtain ⟨z, hz, rfl⟩ := List.mem_map.1 h6
                  refine List.mem_map.2 ⟨z, ?_, rfl⟩
                  rcases List.mem_append.1 hz with h6 | h6
                  · exact List.mem_append_left _ h6
                  · rcases List.mem_cons.1 h6 with e | h6
                    · exact absurd (by rw [e]) h7
                    · exact List.mem_append_right _ h6
              exact ⟨m - 1, by omega, j + 1, _, _, (tl [.int .u8 (a), .int .u8 (c), .slice (some ⟨b, o, none⟩) (n) (cap), undef, undef, undef, .bool false, .pointer (some ⟨p7, 0, none⟩), .int .i64 (0), .map (some (w6.heap.size)), .int .i64 (((j + 1 : Nat) : Int)), .pointer (some ⟨wr.heap.size, 0, none⟩), t 12, t 13, t 14, undef, undef, .bool true, .bool false, .tuple #[.pointer (some ⟨p7, 0, none⟩), .int .i64 (0)], .int .u8 (a), .int .u8 (((q : Nat) : Int)), .int .i64 (((q : Nat) : Int)), .int .i64 (((q + 1 : Nat) : Int)), .int .u8 (c), .int .u8 (((r : Nat) : Int)), .int .i64 (((r : Nat) : Int)), .int .i64 (((r + 1 : Nat) : Int)), .tuple #[.pointer (some ⟨p7, 0, none⟩), .int .i64 (0)], .pointer (some ⟨p7, 0, none⟩), .int .i64 (0), .pointer (some ⟨p7, 0, none⟩), .bool false, .map (some (w6.heap.size)), .int .i64 (((j : Nat) : Int)), .slice (some ⟨b, o, none⟩) (n) (cap), .int .i64 (((n : Nat) : Int)), .bool true, .bool true, .int .i64 (((j : Nat) : Int)), .bool true, .bool true, .int .i64 (((j : Nat) : Int)), .int .i64 (((j + 1 : Nat) : Int)), .slice (some ⟨b, o, none⟩) (n) (cap), .int .i64 (((j : Nat) : Int)), .pointer (some ⟨b, o + j * 3, none⟩), .agg (([.int .i64 (k), .int .i64 (i), .string (s)] : List Value)).toArray, .agg (([.int .i64 (k), .int .i64 (i), .string (s)] : List Value)).toArray, .bool false, .pointer (some ⟨wr.heap.size, 0, none⟩), .int .i64 (k), .bool false, .bool false, t 54, t 55, t 56, t 57, t 58, t 59, t 60, t 61, t 62, t 63, t 64, t 65, t 66, t 67, t 68, t 69, t 70, t 71, .bool true, .bool true, .pointer (some ⟨p7, 0, none⟩), .pointer (some ⟨wr.heap.size, 1, none⟩), .int .i64 (i), .slice o64 ((ofI i L).length) (p65), .map (some (w6.heap.size)), .pointer (some ⟨wr.heap.size, 1, none⟩), .int .i64 (i), v, .bool true, .bool false, .map (some (w6.heap.size)), .pointer (some ⟨wr.heap.size, 1, none⟩), .int .i64 (i), t 87, t 88, t 89, t 90, t 91, t 92, t 93, t 94, t 95, t 96, t 97, t 98, t 99, t 100, t 101, t 102, t 103, t 104, t 105, t 106, t 107, t 108, t 109, t 110, t 111, undef, undef, undef, undef, undef, undef, undef, undef, undef, undef, undef, undef, undef, undef, undef, undef, undef, undef, undef, undef, undef, undef]), rfl, by omega, ⟨on_take hI.out _ hkk⟩, bg_more (by omega) h8⟩
          · skip
            have hofn := on_free hI.out hin
            have h9 := row_nil (e := 9) (size := 1) hM
            replace hM : Ms w w45 (row 9 1 (.slice none 0 0) (0) ([]) :: blk (wr.heap.size) (([.int .i64 (k), .int .i64 (i), .string (s)] : List Value)) 32 :: bg p7 (q + 1) (((r + 1 : Nat) : Int)) (j) (L) :: mp kI (w6.heap.size) (S) :: lrows L S) := h9
            clear h9
            refine wp_seq_k (fun K67 hK67 => ?_)
            refine wp_region_steps (by kernel_rfl) (by kernel_rfl) [3, 8] [0, 0, 0, 0, 0, 0, 0, 0, 1, 2] [0, 2, 0, 1, 2, 2, 2, 1, 2, 2] (by kernel_rfl) (Pm := Option Addr × Nat) (fun π => [.pointer (some ⟨p7, 0, none⟩), .pointer (some ⟨wr.heap.size, 1, none⟩), .int .i64 (i), .slice π.1 ((ofI i L).length) (π.2), .map (some (w6.heap.size)), .pointer (some ⟨wr.heap.size, 1, none⟩), .int .i64 (i), .slice none (0) (0), .bool true, .bool false]) (fun _ => by rfl) (fun j_ π wx => match j_ with | 0 => Ms w wx (row 9 1 (.slice none 0 0) (0) ([]) :: blk (wr.heap.size) (([.int .i64 (k), .int .i64 (i), .string (s)] : List Value)) 32 :: bg p7 (q + 1) (((r + 1 : Nat) : Int)) (j) (L) :: mp kI (w6.heap.size) (S) :: lrows L S) | 1 => Ms w wx (row 9 1 (.slice π.1 ((ofI i L).length) π.2) ((ofI i L).length) ((ofI i L).map Value.string) :: bg p7 (q + 1) (((r + 1 : Nat) : Int)) (j) (notI i L) :: row 9 1 (.slice none 0 0) (0) ([]) :: blk (wr.heap.size) (([.int .i64 (k), .int .i64 (i), .string (s)] : List Value)) 32 :: mp kI (w6.heap.size) (S) :: lrows L S) | _ => Ms w wx (row 9 1 (.slice π.1 ((ofI i L).length) π.2) ((ofI i L).length) ((ofI i L).map Value.string) :: row 9 1 (.slice none 0 0) (0) ([]) :: bg p7 (q + 1) (((r + 1 : Nat) : Int)) (j) (notI i L) :: blk (wr.heap.size) (([.int .i64 (k), .int .i64 (i), .string (s)] : List Value)) 32 :: mp kI (w6.heap.size) (S) :: lrows L S)) (none, 0) hM.drew ?_ ?_ ?_
            · intro j_ k_ o_ hj_ ho_ π wx hM
              rcases j_ with _ | _ | j_
              · obtain rfl := Option.some.inj hj_
                obtain rfl := Option.some.inj ho_
                simp only [fullL, Act.put, List.setIfInBounds_toArray, List.set_cons_succ, List.set_cons_zero]
                replace hM : Ms w wx (row 9 1 (.slice none 0 0) (0) ([]) :: blk (wr.heap.size) (([.int .i64 (k), .int .i64 (i), .string (s)] : List Value)) 32 :: bg p7 (q + 1) (((r + 1 : Nat) : Int)) (j) (L) :: mp kI (w6.heap.size) (S) :: lrows L S) := hM
                exact gw rfl (g_call 17 _ _ [.pointer (some ⟨p7, 0, none⟩), .int .i64 (i)] (kf17 _ _) rfl ((to_row (gtake (ts := ofI i L) (L' := notI i L) (show Ms w wx (bg p7 (q + 1) (((r + 1 : Nat) : Int)) (j) (L) :: row 9 1 (.slice none 0 0) (0) ([]) :: blk (wr.heap.size) (([.int .i64 (k), .int .i64 (i), .string (s)] : List Value)) 32 :: mp kI (w6.heap.size) (S) :: lrows L S) from (hM.up 2 rfl)) (by omega) (rfl) (rfl))).mono (fun e w' ⟨g_0, g_1, h1_, h2_⟩ => ⟨_, h1_, ⟨(g_0, g_1), rfl, fun i h1 h2 => by rcases i with _ | _ | _ | _ | _ | _ | _ | _ | _ | _ | i <;> first | rfl | trivial | exact absurd rfl h2 | exact absurd h1 (by decide), h2_⟩⟩)))
              · obtain rfl := Option.some.inj hj_
                obtain rfl := Option.some.inj ho_
                simp only [fullL, Act.put, List.setIfInBounds_toArray, List.set_cons_succ, List.set_cons_zero]
                replace hM : Ms w wx (row 9 1 (.slice π.1 ((ofI i L).length) π.2) ((ofI i L).length) ((ofI i L).map Value.string) :: bg p7 (q + 1) (((r + 1 : Nat) : Int)) (j) (notI i L) :: row 9 1 (.slice none 0 0) (0) ([]) :: blk (wr.heap.size) (([.int .i64 (k), .int .i64 (i), .string (s)] : List Value)) 32 :: mp kI (w6.heap.size) (S) :: lrows L S) := hM
                exact gw rfl (g_call 16 _ _ [.slice π.1 ((ofI i L).length) (π.2), .slice none (0) (0)] (kf16 _ _) rfl ((texts_any (xs := ofI i L) (ys := []) (r := true) (show Ms w wx (row 9 1 (.slice π.1 ((ofI i L).length) π.2) ((ofI i L).length) ((ofI i L).map Value.string) :: row 9 1 (.slice none 0 0) (0) ([]) :: bg p7 (q + 1) (((r + 1 : Nat) : Int)) (j) (notI i L) :: blk (wr.heap.size) (([.int .i64 (k), .int .i64 (i), .string (s)] : List Value)) 32 :: mp kI (w6.heap.size) (S) :: lrows L S) from ((hM.up 2 rfl).up 1 rfl)) (by have := ofI_le i L; omega) (decide_eq_true hofn)).mono (fun e w' ⟨h1_, h2_⟩ => ⟨_, h1_, ⟨(π.1, π.2), rfl, fun i h1 h2 => by rcases i with _ | _ | _ | _ | _ | _ | _ | _ | _ | _ | i <;> first | rfl | trivial | exact absurd rfl h2 | exact absurd h1 (by decide), h2_⟩⟩)))
              · simp at hj_
            · intro i_ o_ ho_ hi_ j_ hd_ hh_ hj_ π wx hM
              simp only [fullL, Act.put, List.setIfInBounds_toArray, List.set_cons_succ, List.set_cons_zero]
              rcases i_ with _ | _ | _ | _ | _ | _ | _ | _ | _ | _ | i_
              · obtain rfl := Option.some.inj ho_
                exact gw rfl (g_move _ (.pointer (some ⟨p7, 0, none⟩)) rfl ⟨rfl, hM⟩)
              · obtain rfl := Option.some.inj ho_
                exact gw rfl (g_fa 32 _ (wr.heap.size) (0) (1) 1 rfl (fa32_1 _ _ _) ⟨rfl, hM⟩)
              · obtain rfl := Option.some.inj ho_
                rcases j_ with _ | _ | _ | j_
                · replace hM : Ms w wx (row 9 1 (.slice none 0 0) (0) ([]) :: blk (wr.heap.size) (([.int .i64 (k), .int .i64 (i), .string (s)] : List Value)) 32 :: bg p7 (q + 1) (((r + 1 : Nat) : Int)) (j) (L) :: mp kI (w6.heap.size) (S) :: lrows L S) := hM
                  exact gw rfl (g_ld1 3 _ (wr.heap.size) 1 _ rfl (ld3 _ _ _ _ ((hM.get 1 rfl).cell 1 _ rfl)) ⟨rfl, hM⟩)
                · exact absurd hh_ (by decide)
                · exact absurd hh_ (by decide)
                · exact absurd hj_ (by simp)
              · exact absurd (by decide) hi_
              · obtain rfl := Option.some.inj ho_
                exact gw rfl (g_move _ (.map (some (w6.heap.size))) rfl ⟨rfl, hM⟩)
              · obtain rfl := Option.some.inj ho_
                exact gw rfl (g_fa 32 _ (wr.heap.size) (0) (1) 1 rfl (fa32_1 _ _ _) ⟨rfl, hM⟩)
              · obtain rfl := Option.some.inj ho_
                rcases j_ with _ | _ | _ | j_
                · replace hM : Ms w wx (row 9 1 (.slice none 0 0) (0) ([]) :: blk (wr.heap.size) (([.int .i64 (k), .int .i64 (i), .string (s)] : List Value)) 32 :: bg p7 (q + 1) (((r + 1 : Nat) : Int)) (j) (L) :: mp kI (w6.heap.size) (S) :: lrows L S) := hM
                  exact gw rfl (g_ld1 3 _ (wr.heap.size) 1 _ rfl (ld3 _ _ _ _ ((hM.get 1 rfl).cell 1 _ rfl)) ⟨rfl, hM⟩)
                · replace hM : Ms w wx (row 9 1 (.slice π.1 ((ofI i L).length) π.2) ((ofI i L).length) ((ofI i L).map Value.string) :: bg p7 (q + 1) (((r + 1 : Nat) : Int)) (j) (notI i L) :: row 9 1 (.slice none 0 0) (0) ([]) :: blk (wr.heap.size) (([.int .i64 (k), .int .i64 (i), .string (s)] : List Value)) 32 :: mp kI (w6.heap.size) (S) :: lrows L S) := hM
                  exact gw rfl (g_ld1 3 _ (wr.heap.size) 1 _ rfl (ld3 _ _ _ _ ((hM.get 3 rfl).cell 1 _ rfl)) ⟨rfl, hM⟩)
                · replace hM : Ms w wx (row 9 1 (.slice π.1 ((ofI i L).length) π.2) ((ofI i L).length) ((ofI i L).map Value.string) :: row 9 1 (.slice none 0 0) (0) ([]) :: bg p7 (q + 1) (((r + 1 : Nat) : Int)) (j) (notI i L) :: blk (wr.heap.size) (([.int .i64 (k), .int .i64 (i), .string (s)] : List Value)) 32 :: mp kI (w6.heap.size) (S) :: lrows L S) := hM
                  exact gw rfl (g_ld1 3 _ (wr.heap.size) 1 _ rfl (ld3 _ _ _ _ ((hM.get 3 rfl).cell 1 _ rfl)) ⟨rfl, hM⟩)
                · exact absurd hj_ (by simp)
              · obtain rfl := Option.some.inj ho_
                rcases j_ with _ | _ | _ | j_
                · replace hM : Ms w wx (row 9 1 (.slice none 0 0) (0) ([]) :: blk (wr.heap.size) (([.int .i64 (k), .int .i64 (i), .string (s)] : List Value)) 32 :: bg p7 (q + 1) (((r + 1 : Nat) : Int)) (j) (L) :: mp kI (w6.heap.size) (S) :: lrows L S) := hM
                  exact gw rfl (g_look keyI Try.underlying47 Try.zeroValue36 _ _ (i) (.slice none (0) (0)) rfl rfl (show Ms w _ (mp kI (w6.heap.size) (S) :: row 9 1 (.slice none 0 0) (0) ([]) :: blk (wr.heap.size) (([.int .i64 (k), .int .i64 (i), .string (s)] : List Value)) 32 :: bg p7 (q + 1) (((r + 1 : Nat) : Int)) (j) (L) :: lrows L S) from (hM.up 3 rfl)) (by rw [mlook_none hin]; rfl) ⟨rfl, hM⟩)
                · replace hM : Ms w wx (row 9 1 (.slice π.1 ((ofI i L).length) π.2) ((ofI i L).length) ((ofI i L).map Value.string) :: bg p7 (q + 1) (((r + 1 : Nat) : Int)) (j) (notI i L) :: row 9 1 (.slice none 0 0) (0) ([]) :: blk (wr.heap.size) (([.int .i64 (k), .int .i64 (i), .string (s)] : List Value)) 32 :: mp kI (w6.heap.size) (S) :: lrows L S) := hM
                  exact gw rfl (g_look keyI Try.underlying47 Try.zeroValue36 _ _ (i) (.slice none (0) (0)) rfl rfl (show Ms w _ (mp kI (w6.heap.size) (S) :: row 9 1 (.slice π.1 ((ofI i L).length) π.2) ((ofI i L).length) ((ofI i L).map Value.string) :: bg p7 (q + 1) (((r + 1 : Nat) : Int)) (j) (notI i L) :: row 9 1 (.slice none 0 0) (0) ([]) :: blk (wr.heap.size) (([.int .i64 (k), .int .i64 (i), .string (s)] : List Value)) 32 :: lrows L S) from (hM.up 4 rfl)) (by rw [mlook_none hin]; rfl) ⟨rfl, hM⟩)
                · exact absurd hh_ (by decide)
                · exact absurd hj_ (by simp)
              · exact absurd (by decide) hi_
              · obtain rfl := Option.some.inj ho_
                exact gw rfl (g_unot 4 _ true rfl ⟨rfl, hM⟩)
              · simp at ho_
            · simp only [fullL, Act.put, List.setIfInBounds_toArray, List.set_cons_succ, List.set_cons_zero]
              rintro ⟨o69, p70⟩ w68 hM
              replace hM : Ms w w68 (row 9 1 (.slice o69 ((ofI i L).length) p70) ((ofI i L).length) ((ofI i L).map Value.string) :: row 9 1 (.slice none 0 0) (0) ([]) :: bg p7 (q + 1) (((r + 1 : Nat) : Int)) (j) (notI i L) :: blk (wr.heap.size) (([.int .i64 (k), .int .i64 (i), .string (s)] : List Value)) 32 :: mp kI (w6.heap.size) (S) :: lrows L S) := hM
              refine hK67 _ _ ?_
              (try clear hK67 K67)
              refine wp_cond_false rfl ?_
              refine wp_skip ?_
              refine hK61 _ _ ?_
              (try clear hK61 K61)
              refine wl_region ?_
              refine wl_give rfl (g_move _ (.map (some (w6.heap.size))) rfl ?_)
              (try simp only [Act.put, List.setIfInBounds_toArray, List.set_cons_zero, List.set_cons_succ])
              refine wl_give rfl (g_fa 32 _ (wr.heap.size) (0) (1) 1 rfl (fa32_1 _ _ _) ?_)
              (try simp only [Act.put, List.setIfInBounds_toArray, List.set_cons_zero, List.set_cons_succ])
              refine wl_give rfl (g_ld1 3 _ (wr.heap.size) 1 _ rfl (ld3 _ _ _ _ ((hM.get 3 rfl).cell 1 _ rfl)) ?_)
              (try simp only [Act.put, List.setIfInBounds_toArray, List.set_cons_zero, List.set_cons_succ])
              refine wl_give rfl (g_mdel keyI Try.underlying47 _ _ (i) rfl rfl (show Ms w w68 (mp kI (w6.heap.size) (S) :: row 9 1 (.slice o69 ((ofI i L).length) p70) ((ofI i L).length) ((ofI i L).map Value.string) :: row 9 1 (.slice none 0 0) (0) ([]) :: bg p7 (q + 1) (((r + 1 : Nat) : Int)) (j) (notI i L) :: blk (wr.heap.size) (([.int .i64 (k), .int .i64 (i), .string (s)] : List Value)) 32 :: lrows L S) from (hM.up 4 rfl)) ?_)
              intro w71 h_
              replace hM : Ms w w71 (mp kI (w6.heap.size) (mdel (S) (i)) :: row 9 1 (.slice o69 ((ofI i L).length) p70) ((ofI i L).length) ((ofI i L).map Value.string) :: row 9 1 (.slice none 0 0) (0) ([]) :: bg p7 (q + 1) (((r + 1 : Nat) : Int)) (j) (notI i L) :: blk (wr.heap.size) (([.int .i64 (k), .int .i64 (i), .string (s)] : List Value)) 32 :: lrows L S) := h_
              clear h_
              (try simp only [Act.put, List.setIfInBounds_toArray, List.set_cons_zero, List.set_cons_succ])
              refine wl_nil ?_
              refine hK36 _ _ ?_
              (try clear hK36 K36)
              refine wl_region ?_
              refine wl_give rfl (g_move _ (.int .i64 (((j : Nat) : Int))) rfl ?_)
              (try simp only [Act.put, List.setIfInBounds_toArray, List.set_cons_zero, List.set_cons_succ])
              refine wl_give rfl (g_ia 3 _ _ .i64 (((j : Nat) : Int)) (1) (((j + 1 : Nat) : Int)) rfl rfl (hj1.out) ?_)
              (try simp only [Act.put, List.setIfInBounds_toArray, List.set_cons_zero, List.set_cons_succ])
              refine wl_give rfl (g_assign _ (.int .i64 (((j + 1 : Nat) : Int))) rfl ?_)
              (try simp only [Act.put, List.setIfInBounds_toArray, List.set_cons_zero, List.set_cons_succ])
              refine wl_nil ?_
              (try simp only [Exit.then, Exit.inBlock, ↓reduceIte, Nat.reduceEqDiff])
              have h9 : Ms w w71 (bg p7 (q + 1) (((r + 1 : Nat) : Int)) (j) (notI i L) :: mp kI (w6.heap.size) (mdel (S) (i)) :: row 9 1 (.slice o69 ((ofI i L).length) p70) ((ofI i L).length) ((ofI i L).map Value.string) :: row 9 1 (.slice none 0 0) (0) ([]) :: blk (wr.heap.size) (([.int .i64 (k), .int .i64 (i), .string (s)] : List Value)) 32 :: lrows L S) := (((((hM.up 4 rfl).up 3 rfl).up 3 rfl).up 3 rfl).up 4 rfl)
              have h8 := (((h9.erase 4).erase 3).erase 2)
              rw [mdel_none hin, on_none hI.out hin] at h8
              exact ⟨m - 1, by omega, j + 1, _, _, (tl [.int .u8 (a), .int .u8 (c), .slice (some ⟨b, o, none⟩) (n) (cap), undef, undef, undef, .bool false, .pointer (some ⟨p7, 0, none⟩), .int .i64 (0), .map (some (w6.heap.size)), .int .i64 (((j + 1 : Nat) : Int)), .pointer (some ⟨wr.heap.size, 0, none⟩), t 12, t 13, t 14, undef, undef, .bool true, .bool false, .tuple #[.pointer (some ⟨p7, 0, none⟩), .int .i64 (0)], .int .u8 (a), .int .u8 (((q : Nat) : Int)), .int .i64 (((q : Nat) : Int)), .int .i64 (((q + 1 : Nat) : Int)), .int .u8 (c), .int .u8 (((r : Nat) : Int)), .int .i64 (((r : Nat) : Int)), .int .i64 (((r + 1 : Nat) : Int)), .tuple #[.pointer (some ⟨p7, 0, none⟩), .int .i64 (0)], .pointer (some ⟨p7, 0, none⟩), .int .i64 (0), .pointer (some ⟨p7, 0, none⟩), .bool false, .map (some (w6.heap.size)), .int .i64 (((j : Nat) : Int)), .slice (some ⟨b, o, none⟩) (n) (cap), .int .i64 (((n : Nat) : Int)), .bool true, .bool true, .int .i64 (((j : Nat) : Int)), .bool true, .bool true, .int .i64 (((j : Nat) : Int)), .int .i64 (((j + 1 : Nat) : Int)), .slice (some ⟨b, o, none⟩) (n) (cap), .int .i64 (((j : Nat) : Int)), .pointer (some ⟨b, o + j * 3, none⟩), .agg (([.int .i64 (k), .int .i64 (i), .string (s)] : List Value)).toArray, .agg (([.int .i64 (k), .int .i64 (i), .string (s)] : List Value)).toArray, .bool false, .pointer (some ⟨wr.heap.size, 0, none⟩), .int .i64 (k), .bool false, .bool false, t 54, t 55, t 56, t 57, t 58, t 59, t 60, t 61, t 62, t 63, t 64, t 65, t 66, t 67, t 68, t 69, t 70, t 71, .bool true, .bool true, .pointer (some ⟨p7, 0, none⟩), .pointer (some ⟨wr.heap.size, 1, none⟩), .int .i64 (i), .slice o69 ((ofI i L).length) (p70), .map (some (w6.heap.size)), .pointer (some ⟨wr.heap.size, 1, none⟩), .int .i64 (i), .slice none (0) (0), .bool true, .bool false, .map (some (w6.heap.size)), .pointer (some ⟨wr.heap.size, 1, none⟩), .int .i64 (i), t 87, t 88, t 89, t 90, t 91, t 92, t 93, t 94, t 95, t 96, t 97, t 98, t 99, t 100, t 101, t 102, t 103, t 104, t 105, t 106, t 107, t 108, t 109, t 110, t 111, undef, undef, undef, undef, undef, undef, undef, undef, undef, undef, undef, undef, undef, undef, undef, undef, undef, undef, undef, undef, undef, undef]), rfl, by omega, ⟨on_same hI.out⟩, bg_more (by omega) h8⟩
        by_cases hk2 : k = 2
        · have hcount := on_count hI.out hnd i
          have hbl := bdN_len i L
          refine wp_seq_k (fun K72 hK72 => ?_)
          refine wl_region ?_
          refine wl_give rfl (g_ieq 3 _ _ .i64 (k) (0) false rfl rfl (decide_eq_false hk0) ?_)
          (try simp only [Act.put, List.setIfInBounds_toArray, List.set_cons_zero, List.set_cons_succ])
          refine wl_give rfl (g_assign _ (.bool false) rfl ?_)
          (try simp only [Act.put, List.setIfInBounds_toArray, List.set_cons_zero, List.set_cons_succ])
          refine wl_nil ?_
          refine hK72 _ _ ?_
          (try clear hK72 K72)
          refine wp_cond_false rfl ?_
          refine wp_seq_k (fun K73 hK73 => ?_)
          refine wl_region ?_
          refine wl_give rfl (g_ieq 3 _ _ .i64 (k) (1) false rfl rfl (decide_eq_false hk1) ?_)
          (try simp only [Act.put, List.setIfInBounds_toArray, List.set_cons_zero, List.set_cons_succ])
          refine wl_give rfl (g_assign _ (.bool false) rfl ?_)
          (try simp only [Act.put, List.setIfInBounds_toArray, List.set_cons_zero, List.set_cons_succ])
          refine wl_nil ?_
          refine hK73 _ _ ?_
          (try clear hK73 K73)
          refine wp_cond_false rfl ?_
          refine wp_seq_k (fun K74 hK74 => ?_)
          refine wl_region ?_
          refine wl_give rfl (g_ieq 3 _ _ .i64 (k) (2) true rfl rfl (decide_eq_true hk2) ?_)
          (try simp only [Act.put, List.setIfInBounds_toArray, List.set_cons_zero, List.set_cons_succ])
          refine wl_give rfl (g_assign _ (.bool true) rfl ?_)
          (try simp only [Act.put, List.setIfInBounds_toArray, List.set_cons_zero, List.set_cons_succ])
          refine wl_nil ?_
          refine hK74 _ _ ?_
          (try clear hK74 K74)
          refine wp_cond_true rfl ?_
          refine wp_seq_k (fun K75 hK75 => ?_)
          refine wl_region ?_
          refine wl_give rfl (g_assign _ (.int .i64 (0)) rfl ?_)
          (try simp only [Act.put, List.setIfInBounds_toArray, List.set_cons_zero, List.set_cons_succ])
          refine wl_nil ?_
          refine hK75 _ _ ?_
          (try clear hK75 K75)
          refine wp_seq_k (fun K76 hK76 => ?_)
          refine wp_seq_k (fun K77 hK77 => ?_)
          refine wl_region ?_
          refine wl_give rfl (g_move _ (.map (some (w6.heap.size))) rfl ?_)
          (try simp only [Act.put, List.setIfInBounds_toArray, List.set_cons_zero, List.set_cons_succ])
          refine wl_give rfl (g_range Try.underlying47 _ rfl (show Ms w w45 (mp kI (w6.heap.size) (S) :: blk (wr.heap.size) (([.int .i64 (k), .int .i64 (i), .string (s)] : List Value)) 32 :: bg p7 (q + 1) (((r + 1 : Nat) : Int)) (j) (L) :: lrows L S) from (hM.up 2 rfl)) ?_)
          intro w78 h_
          replace hM : Ms w w78 (rg kI (w6.heap.size) (w45.heap.size) (S) (S) (none) :: blk (wr.heap.size) (([.int .i64 (k), .int .i64 (i), .string (s)] : List Value)) 32 :: bg p7 (q + 1) (((r + 1 : Nat) : Int)) (j) (L) :: lrows L S) := h_
          clear h_
          (try simp only [Act.put, List.setIfInBounds_toArray, List.set_cons_zero, List.set_cons_succ])
          refine wl_nil ?_
          refine hK77 _ _ ?_
          (try clear hK77 K77)
          refine wp_block ?_
          have h9 := (((hM.up 1 rfl).up 2 rfl).up 2 rfl)
          refine wp_rounds (fun m2 st wr2 => ∃ (n0 : Nat) (left : List (Int × Value)) (cur : Option (Int × Value)) (u : Nat → Value), st = ⟨#[.int .u8 (a), .int .u8 (c), .slice (some ⟨b, o, none⟩) (n) (cap), undef, undef, undef, .bool false, .pointer (some ⟨p7, 0, none⟩), .int .i64 (0), .map (some (w6.heap.size)), .int .i64 (((j : Nat) : Int)), .pointer (some ⟨wr.heap.size, 0, none⟩), .int .i64 ((n0 : Nat) : Int), u 13, u 14, undef, undef, .bool true, .bool false, .tuple #[.pointer (some ⟨p7, 0, none⟩), .int .i64 (0)], .int .u8 (a), .int .u8 (((q : Nat) : Int)), .int .i64 (((q : Nat) : Int)), .int .i64 (((q + 1 : Nat) : Int)), .int .u8 (c), .int .u8 (((r : Nat) : Int)), .int .i64 (((r : Nat) : Int)), .int .i64 (((r + 1 : Nat) : Int)), .tuple #[.pointer (some ⟨p7, 0, none⟩), .int .i64 (0)], .pointer (some ⟨p7, 0, none⟩), .int .i64 (0), .pointer (some ⟨p7, 0, none⟩), .bool false, .map (some (w6.heap.size)), .int .i64 (((j : Nat) : Int)), .slice (some ⟨b, o, none⟩) (n) (cap), .int .i64 (((n : Nat) : Int)), .bool true, .bool true, .int .i64 (((j : Nat) : Int)), .bool true, .bool true, t 42, t 43, .slice (some ⟨b, o, none⟩) (n) (cap), .int .i64 (((j : Nat) : Int)), .pointer (some ⟨b, o + j * 3, none⟩), .agg (([.int .i64 (k), .int .i64 (i), .string (s)] : List Value)).toArray, .agg (([.int .i64 (k), .int .i64 (i), .string (s)] : List Value)).toArray, .bool false, .pointer (some ⟨wr.heap.size, 0, none⟩), .int .i64 (k), .bool false, .bool false, t 54, t 55, t 56, t 57, t 58, t 59, t 60, t 61, t 62, t 63, t 64, t 65, t 66, t 67, t 68, t 69, t 70, t 71, .bool false, .bool false, t 74, t 75, t 76, t 77, t 78, t 79, t 80, t 81, t 82, t 83, t 84, t 85, t 86, .bool true, .bool true, .map (some (w6.heap.size)), .pointer (some ⟨(w45.heap.size), 0, none⟩), u 91, u 92, u 93, u 94, u 95, u 96, u 97, u 98, u 99, u 100, u 101, u 102, u 103, u 104, u 105, t 106, t 107, t 108, t 109, t 110, t 111, undef, undef, undef, undef, undef, undef, undef, undef, undef, undef, undef, undef, undef, undef, undef, undef, undef, undef, undef, undef, undef, undef], []⟩ ∧ left.length = m2 ∧ (∀ z ∈ left, z ∈ S) ∧ (left.map (·.1)).Nodup ∧ n0 + cntB i left L = cntB i S L ∧ Ms w wr2 (rg kI (w6.heap.size) (w45.heap.size) (kept i (S) (left)) (left) (cur) :: bg p7 (q + 1) (((r + 1 : Nat) : Int)) (j) (L) :: blk (wr.heap.size) (([.int .i64 (k), .int .i64 (i), .string (s)] : List Value)) 32 :: lrows L S)) _ ⟨0, _, _, (tl [.int .u8 (a), .int .u8 (c), .slice (some ⟨b, o, none⟩) (n) (cap), undef, undef, undef, .bool false, .pointer (some ⟨p7, 0, none⟩), .int .i64 (0), .map (some (w6.heap.size)), .int .i64 (((j : Nat) : Int)), .pointer (some ⟨wr.heap.size, 0, none⟩), .int .i64 (0), t 13, t 14, undef, undef, .bool true, .bool false, .tuple #[.pointer (some ⟨p7, 0, none⟩), .int .i64 (0)], .int .u8 (a), .int .u8 (((q : Nat) : Int)), .int .i64 (((q : Nat) : Int)), .int .i64 (((q + 1 : Nat) : Int)), .int .u8 (c), .int .u8 (((r : Nat) : Int)), .int .i64 (((r : Nat) : Int)), .int .i64 (((r + 1 : Nat) : Int)), .tuple #[.pointer (some ⟨p7, 0, none⟩), .int .i64 (0)], .pointer (some ⟨p7, 0, none⟩), .int .i64 (0), .pointer (some ⟨p7, 0, none⟩), .bool false, .map (some (w6.heap.size)), .int .i64 (((j : Nat) : Int)), .slice (some ⟨b, o, none⟩) (n) (cap), .int .i64 (((n : Nat) : Int)), .bool true, .bool true, .int .i64 (((j : Nat) : Int)), .bool true, .bool true, t 42, t 43, .slice (some ⟨b, o, none⟩) (n) (cap), .int .i64 (((j : Nat) : Int)), .pointer (some ⟨b, o + j * 3, none⟩), .agg (([.int .i64 (k), .int .i64 (i), .string (s)] : List Value)).toArray, .agg (([.int .i64 (k), .int .i64 (i), .string (s)] : List Value)).toArray, .bool false, .pointer (some ⟨wr.heap.size, 0, none⟩), .int .i64 (k), .bool false, .bool false, t 54, t 55, t 56, t 57, t 58, t 59, t 60, t 61, t 62, t 63, t 64, t 65, t 66, t 67, t 68, t 69, t 70, t 71, .bool false, .bool false, t 74, t 75, t 76, t 77, t 78, t 79, t 80, t 81, t 82, t 83, t 84, t 85, t 86, .bool true, .bool true, .map (some (w6.heap.size)), .pointer (some ⟨(w45.heap.size), 0, none⟩), t 91, t 92, t 93, t 94, t 95, t 96, t 97, t 98, t 99, t 100, t 101, t 102, t 103, t 104, t 105, t 106, t 107, t 108, t 109, t 110, t 111, undef, undef, undef, undef, undef, undef, undef, undef, undef, undef, undef, undef, undef, undef, undef, undef, undef, undef, undef, undef, undef, undef]), rfl, rfl, fun _ h => h, hnd, Nat.zero_add _, by rw [kept_all]; exact h9⟩ ?_
          clear hM h9
          rintro m2 st wr2 ⟨n0, left, cur, u, rfl, hlen2, hsub, hnd2, hcnt, hM⟩
          by_cases hleft : left = []
          · subst hleft
            have hn0 : n0 = cntB i S L := by simpa [cntB, cnt] using hcnt
            subst hn0
            refine wp_seq_k (fun K79 hK79 => ?_)
            refine wl_region ?_
            refine wl_give rfl (g_next0 (enc := kI) _ rfl hM ?_)
            (try simp only [Act.put, List.setIfInBounds_toArray, List.set_cons_zero, List.set_cons_succ])
            refine wl_give rfl (g_extract _ #[.bool false] 0 (.bool false) rfl rfl ?_)
            (try simp only [Act.put, List.setIfInBounds_toArray, List.set_cons_zero, List.set_cons_succ])
            refine wl_nil ?_
            refine hK79 _ _ ?_
            (try clear hK79 K79)
            refine wp_seq_k (fun K80 hK80 => ?_)
            refine wp_cond_false rfl ?_
            refine wp_exit ?_
            refine hK76 _ _ ?_
            (try clear hK76 K76)
            replace hM := rg_end (((hM.up 2 rfl).up 2 rfl).up 2 rfl)
            rw [kept_nil] at hM
            replace hM : Ms w wr2 (mp kI (w6.heap.size) (S.filter (fun z => !decide (z.1 < i))) :: bg p7 (q + 1) (((r + 1 : Nat) : Int)) (j) (L) :: blk (wr.heap.size) (([.int .i64 (k), .int .i64 (i), .string (s)] : List Value)) 32 :: lrows L S) := hM
            refine wp_seq_k (fun K81 hK81 => ?_)
            refine wl_region ?_
            refine wl_give rfl (g_move _ (.pointer (some ⟨p7, 0, none⟩)) rfl ?_)
            (try simp only [Act.put, List.setIfInBounds_toArray, List.set_cons_zero, List.set_cons_succ])
            refine wl_give rfl (g_fa 32 _ (wr.heap.size) (0) (1) 1 rfl (fa32_1 _ _ _) ?_)
            (try simp only [Act.put, List.setIfInBounds_toArray, List.set_cons_zero, List.set_cons_succ])
            refine wl_give rfl (g_ld1 3 _ (wr.heap.size) 1 _ rfl (ld3 _ _ _ _ ((hM.get 2 rfl).cell 1 _ rfl)) ?_)
            (try simp only [Act.put, List.setIfInBounds_toArray, List.set_cons_zero, List.set_cons_succ])
            refine wl_give rfl (g_call 19 _ _ [.pointer (some ⟨p7, 0, none⟩), .int .i64 (i)] (kf19 _ _) rfl ((gdrop (n := ((bdN i L : Nat) : Int)) (L' := notB i L) (show Ms w wr2 (bg p7 (q + 1) (((r + 1 : Nat) : Int)) (j) (L) :: mp kI (w6.heap.size) (S.filter (fun z => !decide (z.1 < i))) :: blk (wr.heap.size) (([.int .i64 (k), .int .i64 (i), .string (s)] : List Value)) 32 :: lrows L S) from (hM.up 1 rfl)) (by omega) (rfl) (rfl)).mono ?_))
            rintro e w82 ⟨rfl, h_⟩
            refine ⟨_, rfl, ?_⟩
            replace hM : Ms w w82 (bg p7 (q + 1) (((r + 1 : Nat) : Int)) (j) (notB i L) :: mp kI (w6.heap.size) (S.filter (fun z => !decide (z.1 < i))) :: blk (wr.heap.size) (([.int .i64 (k), .int .i64 (i), .string (s)] : List Value)) 32 :: lrows L S) := h_
            clear h_
            (try simp only [Act.put, List.setIfInBounds_toArray, List.set_cons_zero, List.set_cons_succ])
            refine wl_give rfl (g_move _ (.int .i64 (((cntB i S L : Nat) : Int))) rfl ?_)
            (try simp only [Act.put, List.setIfInBounds_toArray, List.set_cons_zero, List.set_cons_succ])
            refine wl_give rfl (g_ine 3 _ _ .i64 (((bdN i L : Nat) : Int)) (((cntB i S L : Nat) : Int)) false rfl rfl (decide_eq_false (fun h6 => h6 (by rw [hcount]))) ?_)
            (try simp only [Act.put, List.setIfInBounds_toArray, List.set_cons_zero, List.set_cons_succ])
            refine wl_nil ?_
            refine hK81 _ _ ?_
            (try clear hK81 K81)
            refine wp_cond_false rfl ?_
            refine wp_skip ?_
            refine hK36 _ _ ?_
            (try clear hK36 K36)
            refine wl_region ?_
            refine wl_give rfl (g_move _ (.int .i64 (((j : Nat) : Int))) rfl ?_)
            (try simp only [Act.put, List.setIfInBounds_toArray, List.set_cons_zero, List.set_cons_succ])
            refine wl_give rfl (g_ia 3 _ _ .i64 (((j : Nat) : Int)) (1) (((j + 1 : Nat) : Int)) rfl rfl (hj1.out) ?_)
            (try simp only [Act.put, List.setIfInBounds_toArray, List.set_cons_zero, List.set_cons_succ])
            refine wl_give rfl (g_assign _ (.int .i64 (((j + 1 : Nat) : Int))) rfl ?_)
            (try simp only [Act.put, List.setIfInBounds_toArray, List.set_cons_zero, List.set_cons_succ])
            refine wl_nil ?_
            (try simp only [Exit.then, Exit.inBlock, ↓reduceIte, Nat.reduceEqDiff])
            have h9 : Ms w w82 (bg p7 (q + 1) (((r + 1 : Nat) : Int)) (j) (notB i L) :: mp kI (w6.heap.size) (S.filter (fun z => !decide (z.1 < i))) :: blk (wr.heap.size) (([.int .i64 (k), .int .i64 (i), .string (s)] : List Value)) 32 :: lrows L S) := (((hM.up 2 rfl).up 2 rfl).up 2 rfl)
            have h8 := (h9.erase 2)
            have hsl : (lrows L (S.filter (fun z => !decide (z.1 < i)))).Sublist (lrows L S) := List.filter_sublist.map _
            have h7 := Ms.sub ((hsl.cons_cons _).cons_cons _) h8
            have e4 : lrows L (S.filter (fun z => !decide (z.1 < i))) = lrows (notB i L) (S.filter (fun z => !decide (z.1 < i))) := (lrows_same fun z hz => by have := (List.mem_filter.1 hz).2; rw [ofI_notB, if_neg (by simpa using this)]).symm
            rw [e4] at h7
            exact ⟨m - 1, by omega, j + 1, _, _, (tl [.int .u8 (a), .int .u8 (c), .slice (some ⟨b, o, none⟩) (n) (cap), undef, undef, undef, .bool false, .pointer (some ⟨p7, 0, none⟩), .int .i64 (0), .map (some (w6.heap.size)), .int .i64 (((j + 1 : Nat) : Int)), .pointer (some ⟨wr.heap.size, 0, none⟩), .int .i64 (((cntB i S L : Nat) : Int)), u 13, u 14, undef, undef, .bool true, .bool false, .tuple #[.pointer (some ⟨p7, 0, none⟩), .int .i64 (0)], .int .u8 (a), .int .u8 (((q : Nat) : Int)), .int .i64 (((q : Nat) : Int)), .int .i64 (((q + 1 : Nat) : Int)), .int .u8 (c), .int .u8 (((r : Nat) : Int)), .int .i64 (((r : Nat) : Int)), .int .i64 (((r + 1 : Nat) : Int)), .tuple #[.pointer (some ⟨p7, 0, none⟩), .int .i64 (0)], .pointer (some ⟨p7, 0, none⟩), .int .i64 (0), .pointer (some ⟨p7, 0, none⟩), .bool false, .map (some (w6.heap.size)), .int .i64 (((j : Nat) : Int)), .slice (some ⟨b, o, none⟩) (n) (cap), .int .i64 (((n : Nat) : Int)), .bool true, .bool true, .int .i64 (((j : Nat) : Int)), .bool true, .bool true, .int .i64 (((j : Nat) : Int)), .int .i64 (((j + 1 : Nat) : Int)), .slice (some ⟨b, o, none⟩) (n) (cap), .int .i64 (((j : Nat) : Int)), .pointer (some ⟨b, o + j * 3, none⟩), .agg (([.int .i64 (k), .int .i64 (i), .string (s)] : List Value)).toArray, .agg (([.int .i64 (k), .int .i64 (i), .string (s)] : List Value)).toArray, .bool false, .pointer (some ⟨wr.heap.size, 0, none⟩), .int .i64 (k), .bool false, .bool false, t 54, t 55, t 56, t 57, t 58, t 59, t 60, t 61, t 62, t 63, t 64, t 65, t 66, t 67, t 68, t 69, t 70, t 71, .bool false, .bool false, t 74, t 75, t 76, t 77, t 78, t 79, t 80, t 81, t 82, t 83, t 84, t 85, t 86, .bool true, .bool true, .map (some (w6.heap.size)), .pointer (some ⟨(w45.heap.size), 0, none⟩), .tuple #[.bool false], .bool false, u 93, u 94, u 95, u 96, u 97, u 98, u 99, u 100, u 101, u 102, u 103, u 104, u 105, .pointer (some ⟨p7, 0, none⟩), .pointer (some ⟨wr.heap.size, 1, none⟩), .int .i64 (i), .int .i64 (((bdN i L : Nat) : Int)), .int .i64 (((cntB i S L : Nat) : Int)), .bool false, undef, undef, undef, undef, undef, undef, undef, undef, undef, undef, undef, undef, undef, undef, undef, undef, undef, undef, undef, undef, undef, undef]), rfl, by omega, ⟨on_drop hI.out i⟩, bg_more (by omega) h7⟩
          · skip
            refine wp_seq_k (fun K83 hK83 => ?_)
            refine wl_region ?_
            refine wl_give rfl (g_next1 keyI _ rfl hM (hleft) ?_)
            intro y85 w84 hy h_
            replace hM : Ms w w84 (rg kI (w6.heap.size) (w45.heap.size) (kept i (S) (left)) (mdel (left) y85.1) (some y85) :: bg p7 (q + 1) (((r + 1 : Nat) : Int)) (j) (L) :: blk (wr.heap.size) (([.int .i64 (k), .int .i64 (i), .string (s)] : List Value)) 32 :: lrows L S) := h_
            clear h_
            (try simp only [Act.put, List.setIfInBounds_toArray, List.set_cons_zero, List.set_cons_succ])
            obtain ⟨j2, v2⟩ := y85
            have hyS := hsub _ hy
            obtain ⟨o2, c2, hv2⟩ := lslice (L := L) hM (List.mem_cons_of_mem _ (List.mem_cons_of_mem _ (List.mem_cons_of_mem _ (lmem hyS))))
            replace hv2 : v2 = .slice o2 (ofI j2 L).length c2 := hv2
            subst hv2
            replace hM : Ms w w84 (rg kI (w6.heap.size) (w45.heap.size) (kept i (S) (left)) (mdel left j2) (some (j2, .slice o2 (ofI j2 L).length c2)) :: bg p7 (q + 1) (((r + 1 : Nat) : Int)) (j) (L) :: blk (wr.heap.size) (([.int .i64 (k), .int .i64 (i), .string (s)] : List Value)) 32 :: lrows L S) := hM
            refine wl_give rfl (g_extract _ #[.bool true, .int .i64 (j2), .slice o2 ((ofI j2 L).length) (c2)] 0 (.bool true) rfl rfl ?_)
            (try simp only [Act.put, List.setIfInBounds_toArray, List.set_cons_zero, List.set_cons_succ])
            refine wl_nil ?_
            refine hK83 _ _ ?_
            (try clear hK83 K83)
            refine wp_seq_k (fun K86 hK86 => ?_)
            refine wp_cond_true rfl ?_
            refine wp_skip ?_
            refine hK86 _ _ ?_
            (try clear hK86 K86)
            refine wp_block ?_
            refine wp_seq_k (fun K87 hK87 => ?_)
            refine wl_region ?_
            refine wl_give rfl (g_entry _ ((j2, .slice o2 (ofI j2 L).length c2)) rfl hM ?_)
            (try simp only [Act.put, List.setIfInBounds_toArray, List.set_cons_zero, List.set_cons_succ])
            refine wl_give rfl (g_extract _ #[.int .i64 (j2), .slice o2 ((ofI j2 L).length) (c2)] 0 (.int .i64 (j2)) rfl rfl ?_)
            (try simp only [Act.put, List.setIfInBounds_toArray, List.set_cons_zero, List.set_cons_succ])
            refine wl_give rfl (g_extract _ #[.int .i64 (j2), .slice o2 ((ofI j2 L).length) (c2)] 1 (.slice o2 ((ofI j2 L).length) (c2)) rfl rfl ?_)
            (try simp only [Act.put, List.setIfInBounds_toArray, List.set_cons_zero, List.set_cons_succ])
            refine wl_give rfl (g_assign _ (.int .i64 (j2)) rfl ?_)
            (try simp only [Act.put, List.setIfInBounds_toArray, List.set_cons_zero, List.set_cons_succ])
            refine wl_give rfl (g_assign _ (.slice o2 ((ofI j2 L).length) (c2)) rfl ?_)
            (try simp only [Act.put, List.setIfInBounds_toArray, List.set_cons_zero, List.set_cons_succ])
            refine wl_nil ?_
            refine hK87 _ _ ?_
            (try clear hK87 K87)
            by_cases hlt2 : j2 < i
            · have hstep : cntB i left L = (ofI j2 L).length + cntB i (mdel left j2) L := cntB_lt hnd2 hy hlt2
              have hadd : Shut (IntKind.i64.wrap (((n0 : Nat) : Int) + (((ofI j2 L).length : Nat) : Int)) = ((n0 + (ofI j2 L).length : Nat) : Int)) := ⟨by rw [wrap_id _ (by omega) (by omega)]; omega⟩
              refine wp_seq_k (fun K88 hK88 => ?_)
              refine wl_region ?_
              refine wl_give rfl (g_move _ (.int .i64 (j2)) rfl ?_)
              (try simp only [Act.put, List.setIfInBounds_toArray, List.set_cons_zero, List.set_cons_succ])
              refine wl_give rfl (g_fa 32 _ (wr.heap.size) (0) (1) 1 rfl (fa32_1 _ _ _) ?_)
              (try simp only [Act.put, List.setIfInBounds_toArray, List.set_cons_zero, List.set_cons_succ])
              refine wl_give rfl (g_ld1 3 _ (wr.heap.size) 1 _ rfl (ld3 _ _ _ _ ((hM.get 2 rfl).cell 1 _ rfl)) ?_)
              (try simp only [Act.put, List.setIfInBounds_toArray, List.set_cons_zero, List.set_cons_succ])
              refine wl_give rfl (g_ilss 3 _ _ .i64 (j2) (i) true rfl rfl (decide_eq_true hlt2) ?_)
              (try simp only [Act.put, List.setIfInBounds_toArray, List.set_cons_zero, List.set_cons_succ])
              refine wl_nil ?_
              refine hK88 _ _ ?_
              (try clear hK88 K88)
              refine wp_cond_true rfl ?_
              refine wp_seq_k (fun K89 hK89 => ?_)
              refine wl_region ?_
              refine wl_give rfl (g_move _ (.int .i64 (((n0 : Nat) : Int))) rfl ?_)
              (try simp only [Act.put, List.setIfInBounds_toArray, List.set_cons_zero, List.set_cons_succ])
              refine wl_give rfl (g_move _ (.slice o2 ((ofI j2 L).length) (c2)) rfl ?_)
              (try simp only [Act.put, List.setIfInBounds_toArray, List.set_cons_zero, List.set_cons_succ])
              refine wl_give rfl (g_len _ 36 9 (o2) ((ofI j2 L).length) (c2) ((((ofI j2 L).length : Nat) : Int)) Try.underlying36 rfl rfl ?_)
              (try simp only [Act.put, List.setIfInBounds_toArray, List.set_cons_zero, List.set_cons_succ])
              refine wl_give rfl (g_ia 3 _ _ .i64 (((n0 : Nat) : Int)) ((((ofI j2 L).length : Nat) : Int)) (((n0 + (ofI j2 L).length : Nat) : Int)) rfl rfl ((hadd.out)) ?_)
              (try simp only [Act.put, List.setIfInBounds_toArray, List.set_cons_zero, List.set_cons_succ])
              refine wl_give rfl (g_assign _ (.int .i64 (((n0 + (ofI j2 L).length : Nat) : Int))) rfl ?_)
              (try simp only [Act.put, List.setIfInBounds_toArray, List.set_cons_zero, List.set_cons_succ])
              refine wl_nil ?_
              refine hK89 _ _ ?_
              (try clear hK89 K89)
              refine wl_region ?_
              refine wl_give rfl (g_move _ (.map (some (w6.heap.size))) rfl ?_)
              (try simp only [Act.put, List.setIfInBounds_toArray, List.set_cons_zero, List.set_cons_succ])
              refine wl_give rfl (g_move _ (.int .i64 (j2)) rfl ?_)
              (try simp only [Act.put, List.setIfInBounds_toArray, List.set_cons_zero, List.set_cons_succ])
              refine wl_give rfl (g_rdel keyI Try.underlying47 _ _ (j2) rfl rfl hM ?_)
              intro w90 h_
              replace hM : Ms w w90 (rg kI (w6.heap.size) (w45.heap.size) (mdel (kept i (S) (left)) (j2)) (mdel (mdel left j2) (j2)) (none) :: bg p7 (q + 1) (((r + 1 : Nat) : Int)) (j) (L) :: blk (wr.heap.size) (([.int .i64 (k), .int .i64 (i), .string (s)] : List Value)) 32 :: lrows L S) := h_
              clear h_
              (try simp only [Act.put, List.setIfInBounds_toArray, List.set_cons_zero, List.set_cons_succ])
              refine wl_nil ?_
              (try simp only [Exit.then, Exit.inBlock, ↓reduceIte, Nat.reduceEqDiff])
              have h9 : Ms w w90 (rg kI (w6.heap.size) (w45.heap.size) (mdel (kept i (S) (left)) (j2)) (mdel (mdel left j2) (j2)) (none) :: bg p7 (q + 1) (((r + 1 : Nat) : Int)) (j) (L) :: blk (wr.heap.size) (([.int .i64 (k), .int .i64 (i), .string (s)] : List Value)) 32 :: lrows L S) := (((hM.up 2 rfl).up 2 rfl).up 2 rfl)
              rw [kept_lt hlt2, mdel_twice] at h9
              exact ⟨_, hlen2 ▸ mdel_length hy, n0 + (ofI j2 L).length, _, _, (tl [.int .u8 (a), .int .u8 (c), .slice (some ⟨b, o, none⟩) (n) (cap), undef, undef, undef, .bool false, .pointer (some ⟨p7, 0, none⟩), .int .i64 (0), .map (some (w6.heap.size)), .int .i64 (((j : Nat) : Int)), .pointer (some ⟨wr.heap.size, 0, none⟩), .int .i64 (((n0 + (ofI j2 L).length : Nat) : Int)), .int .i64 (j2), .slice o2 ((ofI j2 L).length) (c2), undef, undef, .bool true, .bool false, .tuple #[.pointer (some ⟨p7, 0, none⟩), .int .i64 (0)], .int .u8 (a), .int .u8 (((q : Nat) : Int)), .int .i64 (((q : Nat) : Int)), .int .i64 (((q + 1 : Nat) : Int)), .int .u8 (c), .int .u8 (((r : Nat) : Int)), .int .i64 (((r : Nat) : Int)), .int .i64 (((r + 1 : Nat) : Int)), .tuple #[.pointer (some ⟨p7, 0, none⟩), .int .i64 (0)], .pointer (some ⟨p7, 0, none⟩), .int .i64 (0), .pointer (some ⟨p7, 0, none⟩), .bool false, .map (some (w6.heap.size)), .int .i64 (((j : Nat) : Int)), .slice (some ⟨b, o, none⟩) (n) (cap), .int .i64 (((n : Nat) : Int)), .bool true, .bool true, .int .i64 (((j : Nat) : Int)), .bool true, .bool true, t 42, t 43, .slice (some ⟨b, o, none⟩) (n) (cap), .int .i64 (((j : Nat) : Int)), .pointer (some ⟨b, o + j * 3, none⟩), .agg (([.int .i64 (k), .int .i64 (i), .string (s)] : List Value)).toArray, .agg (([.int .i64 (k), .int .i64 (i), .string (s)] : List Value)).toArray, .bool false, .pointer (some ⟨wr.heap.size, 0, none⟩), .int .i64 (k), .bool false, .bool false, t 54, t 55, t 56, t 57, t 58, t 59, t 60, t 61, t 62, t 63, t 64, t 65, t 66, t 67, t 68, t 69, t 70, t 71, .bool false, .bool false, t 74, t 75, t 76, t 77, t 78, t 79, t 80, t 81, t 82, t 83, t 84, t 85, t 86, .bool true, .bool true, .map (some (w6.heap.size)), .pointer (some ⟨(w45.heap.size), 0, none⟩), .tuple #[.bool true, .int .i64 (j2), .slice o2 ((ofI j2 L).length) (c2)], .bool true, .tuple #[.int .i64 (j2), .slice o2 ((ofI j2 L).length) (c2)], .int .i64 (j2), .slice o2 ((ofI j2 L).length) (c2), .int .i64 (j2), .pointer (some ⟨wr.heap.size, 1, none⟩), .int .i64 (i), .bool true, .int .i64 (((n0 : Nat) : Int)), .slice o2 ((ofI j2 L).length) (c2), .int .i64 ((((ofI j2 L).length : Nat) : Int)), .int .i64 (((n0 + (ofI j2 L).length : Nat) : Int)), .map (some (w6.heap.size)), .int .i64 (j2), t 106, t 107, t 108, t 109, t 110, t 111, undef, undef, undef, undef, undef, undef, undef, undef, undef, undef, undef, undef, undef, undef, undef, undef, undef, undef, undef, undef, undef, undef]), rfl, rfl, fun z hz => hsub z (mdel_sub z hz), mdel_keys hnd2, by rw [hstep] at hcnt; exact (Nat.add_assoc _ _ _).trans hcnt, h9⟩
            · have hstep : cntB i left L = cntB i (mdel left j2) L := cntB_ge hnd2 hy hlt2
              refine wp_seq_k (fun K91 hK91 => ?_)
              refine wl_region ?_
              refine wl_give rfl (g_move _ (.int .i64 (j2)) rfl ?_)
              (try simp only [Act.put, List.setIfInBounds_toArray, List.set_cons_zero, List.set_cons_succ])
              refine wl_give rfl (g_fa 32 _ (wr.heap.size) (0) (1) 1 rfl (fa32_1 _ _ _) ?_)
              (try simp only [Act.put, List.setIfInBounds_toArray, List.set_cons_zero, List.set_cons_succ])
              refine wl_give rfl (g_ld1 3 _ (wr.heap.size) 1 _ rfl (ld3 _ _ _ _ ((hM.get 2 rfl).cell 1 _ rfl)) ?_)
              (try simp only [Act.put, List.setIfInBounds_toArray, List.set_cons_zero, List.set_cons_succ])
              refine wl_give rfl (g_ilss 3 _ _ .i64 (j2) (i) false rfl rfl (decide_eq_false hlt2) ?_)
              (try simp only [Act.put, List.setIfInBounds_toArray, List.set_cons_zero, List.set_cons_succ])
              refine wl_nil ?_
              refine hK91 _ _ ?_
              (try clear hK91 K91)
              refine wp_cond_false rfl ?_
              refine wp_skip ?_
              (try simp only [Exit.then, Exit.inBlock, ↓reduceIte, Nat.reduceEqDiff])
              have h9 : Ms w w84 (rg kI (w6.heap.size) (w45.heap.size) (kept i (S) (left)) (mdel left j2) (some (j2, .slice o2 (ofI j2 L).length c2)) :: bg p7 (q + 1) (((r + 1 : Nat) : Int)) (j) (L) :: blk (wr.heap.size) (([.int .i64 (k), .int .i64 (i), .string (s)] : List Value)) 32 :: lrows L S) := (((hM.up 2 rfl).up 2 rfl).up 2 rfl)
              rw [kept_ge hlt2] at h9
              exact ⟨_, hlen2 ▸ mdel_length hy, n0, _, _, (tl [.int .u8 (a), .int .u8 (c), .slice (some ⟨b, o, none⟩) (n) (cap), undef, undef, undef, .bool false, .pointer (some ⟨p7, 0, none⟩), .int .i64 (0), .map (some (w6.heap.size)), .int .i64 (((j : Nat) : Int)), .pointer (some ⟨wr.heap.size, 0, none⟩), .int .i64 (((n0 : Nat) : Int)), .int .i64 (j2), .slice o2 ((ofI j2 L).length) (c2), undef, undef, .bool true, .bool false, .tuple #[.pointer (some ⟨p7, 0, none⟩), .int .i64 (0)], .int .u8 (a), .int .u8 (((q : Nat) : Int)), .int .i64 (((q : Nat) : Int)), .int .i64 (((q + 1 : Nat) : Int)), .int .u8 (c), .int .u8 (((r : Nat) : Int)), .int .i64 (((r : Nat) : Int)), .int .i64 (((r + 1 : Nat) : Int)), .tuple #[.pointer (some ⟨p7, 0, none⟩), .int .i64 (0)], .pointer (some ⟨p7, 0, none⟩), .int .i64 (0), .pointer (some ⟨p7, 0, none⟩), .bool false, .map (some (w6.heap.size)), .int .i64 (((j : Nat) : Int)), .slice (some ⟨b, o, none⟩) (n) (cap), .int .i64 (((n : Nat) : Int)), .bool true, .bool true, .int .i64 (((j : Nat) : Int)), .bool true, .bool true, t 42, t 43, .slice (some ⟨b, o, none⟩) (n) (cap), .int .i64 (((j : Nat) : Int)), .pointer (some ⟨b, o + j * 3, none⟩), .agg (([.int .i64 (k), .int .i64 (i), .string (s)] : List Value)).toArray, .agg (([.int .i64 (k), .int .i64 (i), .string (s)] : List Value)).toArray, .bool false, .pointer (some ⟨wr.heap.size, 0, none⟩), .int .i64 (k), .bool false, .bool false, t 54, t 55, t 56, t 57, t 58, t 59, t 60, t 61, t 62, t 63, t 64, t 65, t 66, t 67, t 68, t 69, t 70, t 71, .bool false, .bool false, t 74, t 75, t 76, t 77, t 78, t 79, t 80, t 81, t 82, t 83, t 84, t 85, t 86, .bool true, .bool true, .map (some (w6.heap.size)), .pointer (some ⟨(w45.heap.size), 0, none⟩), .tuple #[.bool true, .int .i64 (j2), .slice o2 ((ofI j2 L).length) (c2)], .bool true, .tuple #[.int .i64 (j2), .slice o2 ((ofI j2 L).length) (c2)], .int .i64 (j2), .slice o2 ((ofI j2 L).length) (c2), .int .i64 (j2), .pointer (some ⟨wr.heap.size, 1, none⟩), .int .i64 (i), .bool false, u 100, u 101, u 102, u 103, u 104, u 105, t 106, t 107, t 108, t 109, t 110, t 111, undef, undef, undef, undef, undef, undef, undef, undef, undef, undef, undef, undef, undef, undef, undef, undef, undef, undef, undef, undef, undef, undef]), rfl, rfl, fun z hz => hsub z (mdel_sub z hz), mdel_keys hnd2, by rw [hstep] at hcnt; exact hcnt, h9⟩
        · skip
          refine wp_seq_k (fun K92 hK92 => ?_)
          refine wl_region ?_
          refine wl_give rfl (g_ieq 3 _ _ .i64 (k) (0) false rfl rfl (decide_eq_false hk0) ?_)
          (try simp only [Act.put, List.setIfInBounds_toArray, List.set_cons_zero, List.set_cons_succ])
          refine wl_give rfl (g_assign _ (.bool false) rfl ?_)
          (try simp only [Act.put, List.setIfInBounds_toArray, List.set_cons_zero, List.set_cons_succ])
          refine wl_nil ?_
          refine hK92 _ _ ?_
          (try clear hK92 K92)
          refine wp_cond_false rfl ?_
          refine wp_seq_k (fun K93 hK93 => ?_)
          refine wl_region ?_
          refine wl_give rfl (g_ieq 3 _ _ .i64 (k) (1) false rfl rfl (decide_eq_false hk1) ?_)
          (try simp only [Act.put, List.setIfInBounds_toArray, List.set_cons_zero, List.set_cons_succ])
          refine wl_give rfl (g_assign _ (.bool false) rfl ?_)
          (try simp only [Act.put, List.setIfInBounds_toArray, List.set_cons_zero, List.set_cons_succ])
          refine wl_nil ?_
          refine hK93 _ _ ?_
          (try clear hK93 K93)
          refine wp_cond_false rfl ?_
          refine wp_seq_k (fun K94 hK94 => ?_)
          refine wl_region ?_
          refine wl_give rfl (g_ieq 3 _ _ .i64 (k) (2) false rfl rfl (decide_eq_false hk2) ?_)
          (try simp only [Act.put, List.setIfInBounds_toArray, List.set_cons_zero, List.set_cons_succ])
          refine wl_give rfl (g_assign _ (.bool false) rfl ?_)
          (try simp only [Act.put, List.setIfInBounds_toArray, List.set_cons_zero, List.set_cons_succ])
          refine wl_nil ?_
          refine hK94 _ _ ?_
          (try clear hK94 K94)
          refine wp_cond_false rfl ?_
          refine wp_skip ?_
          refine hK36 _ _ ?_
          (try clear hK36 K36)
          refine wl_region ?_
          refine wl_give rfl (g_move _ (.int .i64 (((j : Nat) : Int))) rfl ?_)
          (try simp only [Act.put, List.setIfInBounds_toArray, List.set_cons_zero, List.set_cons_succ])
          refine wl_give rfl (g_ia 3 _ _ .i64 (((j : Nat) : Int)) (1) (((j + 1 : Nat) : Int)) rfl rfl (hj1.out) ?_)
          (try simp only [Act.put, List.setIfInBounds_toArray, List.set_cons_zero, List.set_cons_succ])
          refine wl_give rfl (g_assign _ (.int .i64 (((j + 1 : Nat) : Int))) rfl ?_)
          (try simp only [Act.put, List.setIfInBounds_toArray, List.set_cons_zero, List.set_cons_succ])
          refine wl_nil ?_
          (try simp only [Exit.then, Exit.inBlock, ↓reduceIte, Nat.reduceEqDiff])
          have h9 : Ms w w45 (bg p7 (q + 1) (((r + 1 : Nat) : Int)) (j) (L) :: mp kI (w6.heap.size) (S) :: blk (wr.heap.size) (([.int .i64 (k), .int .i64 (i), .string (s)] : List Value)) 32 :: lrows L S) := (((hM.up 0 rfl).up 2 rfl).up 2 rfl)
          exact ⟨m - 1, by omega, j + 1, _, _, (tl [.int .u8 (a), .int .u8 (c), .slice (some ⟨b, o, none⟩) (n) (cap), undef, undef, undef, .bool false, .pointer (some ⟨p7, 0, none⟩), .int .i64 (0), .map (some (w6.heap.size)), .int .i64 (((j + 1 : Nat) : Int)), .pointer (some ⟨wr.heap.size, 0, none⟩), t 12, t 13, t 14, undef, undef, .bool true, .bool false, .tuple #[.pointer (some ⟨p7, 0, none⟩), .int .i64 (0)], .int .u8 (a), .int .u8 (((q : Nat) : Int)), .int .i64 (((q : Nat) : Int)), .int .i64 (((q + 1 : Nat) : Int)), .int .u8 (c), .int .u8 (((r : Nat) : Int)), .int .i64 (((r : Nat) : Int)), .int .i64 (((r + 1 : Nat) : Int)), .tuple #[.pointer (some ⟨p7, 0, none⟩), .int .i64 (0)], .pointer (some ⟨p7, 0, none⟩), .int .i64 (0), .pointer (some ⟨p7, 0, none⟩), .bool false, .map (some (w6.heap.size)), .int .i64 (((j : Nat) : Int)), .slice (some ⟨b, o, none⟩) (n) (cap), .int .i64 (((n : Nat) : Int)), .bool true, .bool true, .int .i64 (((j : Nat) : Int)), .bool true, .bool true, .int .i64 (((j : Nat) : Int)), .int .i64 (((j + 1 : Nat) : Int)), .slice (some ⟨b, o, none⟩) (n) (cap), .int .i64 (((j : Nat) : Int)), .pointer (some ⟨b, o + j * 3, none⟩), .agg (([.int .i64 (k), .int .i64 (i), .string (s)] : List Value)).toArray, .agg (([.int .i64 (k), .int .i64 (i), .string (s)] : List Value)).toArray, .bool false, .pointer (some ⟨wr.heap.size, 0, none⟩), .int .i64 (k), .bool false, .bool false, t 54, t 55, t 56, t 57, t 58, t 59, t 60, t 61, t 62, t 63, t 64, t 65, t 66, t 67, t 68, t 69, t 70, t 71, .bool false, .bool false, t 74, t 75, t 76, t 77, t 78, t 79, t 80, t 81, t 82, t 83, t 84, t 85, t 86, .bool false, .bool false, t 89, t 90, t 91, t 92, t 93, t 94, t 95, t 96, t 97, t 98, t 99, t 100, t 101, t 102, t 103, t 104, t 105, t 106, t 107, t 108, t 109, t 110, t 111, undef, undef, undef, undef, undef, undef, undef, undef, undef, undef, undef, undef, undef, undef, undef, undef, undef, undef, undef, undef, undef, undef]), rfl, by omega, ⟨on_same hI.out⟩, bg_more (by omega) (h9.erase 2)⟩
    · skip
      refine wp_seq_k (fun K95 hK95 => ?_)
      refine wp_seq_k (fun K96 hK96 => ?_)
      refine wl_region ?_
      refine wl_give rfl (g_move _ (.int .i64 (((j : Nat) : Int))) rfl ?_)
      (try simp only [Act.put, List.setIfInBounds_toArray, List.set_cons_zero, List.set_cons_succ])
      refine wl_give rfl (g_move _ (.slice ao (n) (cap)) rfl ?_)
      (try simp only [Act.put, List.setIfInBounds_toArray, List.set_cons_zero, List.set_cons_succ])
      refine wl_give rfl (g_len _ 22 32 (ao) (n) (cap) (((n : Nat) : Int)) Try.underlying22 rfl rfl ?_)
      (try simp only [Act.put, List.setIfInBounds_toArray, List.set_cons_zero, List.set_cons_succ])
      refine wl_give rfl (g_ilss 3 _ _ .i64 (((j : Nat) : Int)) (((n : Nat) : Int)) true rfl rfl (decide_eq_true h1) ?_)
      (try simp only [Act.put, List.setIfInBounds_toArray, List.set_cons_zero, List.set_cons_succ])
      refine wl_give rfl (g_move _ (.bool true) rfl ?_)
      (try simp only [Act.put, List.setIfInBounds_toArray, List.set_cons_zero, List.set_cons_succ])
      refine wl_give rfl (g_move _ (.int .i64 (((j : Nat) : Int))) rfl ?_)
      (try simp only [Act.put, List.setIfInBounds_toArray, List.set_cons_zero, List.set_cons_succ])
      refine wl_give rfl (g_ilss 3 _ _ .i64 (((j : Nat) : Int)) (100) false rfl rfl (decide_eq_false h2) ?_)
      (try simp only [Act.put, List.setIfInBounds_toArray, List.set_cons_zero, List.set_cons_succ])
      refine wl_give rfl (g_pickt _ _ _ (.bool false) rfl rfl ?_)
      (try simp only [Act.put, List.setIfInBounds_toArray, List.set_cons_zero, List.set_cons_succ])
      refine wl_nil ?_
      refine hK96 _ _ ?_
      (try clear hK96 K96)
      refine wp_cond_false rfl ?_
      refine wp_exit ?_
      exact hcut j S L (tl [.int .u8 (a), .int .u8 (c), .slice ao (n) (cap), undef, undef, undef, .bool false, .pointer (some ⟨p7, 0, none⟩), .int .i64 (0), .map (some (w6.heap.size)), .int .i64 (((j : Nat) : Int)), t 11, t 12, t 13, t 14, undef, undef, .bool true, .bool false, .tuple #[.pointer (some ⟨p7, 0, none⟩), .int .i64 (0)], .int .u8 (a), .int .u8 (((q : Nat) : Int)), .int .i64 (((q : Nat) : Int)), .int .i64 (((q + 1 : Nat) : Int)), .int .u8 (c), .int .u8 (((r : Nat) : Int)), .int .i64 (((r : Nat) : Int)), .int .i64 (((r + 1 : Nat) : Int)), .tuple #[.pointer (some ⟨p7, 0, none⟩), .int .i64 (0)], .pointer (some ⟨p7, 0, none⟩), .int .i64 (0), .pointer (some ⟨p7, 0, none⟩), .bool false, .map (some (w6.heap.size)), .int .i64 (((j : Nat) : Int)), .slice ao (n) (cap), .int .i64 (((n : Nat) : Int)), .bool true, .bool true, .int .i64 (((j : Nat) : Int)), .bool false, .bool false, t 42, t 43, t 44, t 45, t 46, t 47, t 48, t 49, t 50, t 51, t 52, t 53, t 54, t 55, t 56, t 57, t 58, t 59, t 60, t 61, t 62, t 63, t 64, t 65, t 66, t 67, t 68, t 69, t 70, t 71, t 72, t 73, t 74, t 75, t 76, t 77, t 78, t 79, t 80, t 81, t 82, t 83, t 84, t 85, t 86, t 87, t 88, t 89, t 90, t 91, t 92, t 93, t 94, t 95, t 96, t 97, t 98, t 99, t 100, t 101, t 102, t 103, t 104, t 105, t 106, t 107, t 108, t 109, t 110, t 111, undef, undef, undef, undef, undef, undef, undef, undef, undef, undef, undef, undef, undef, undef, undef, undef, undef, undef, undef, undef, undef, undef]) _ hI (by omega) hM
  · skip
    refine wp_seq_k (fun K97 hK97 => ?_)
    refine wp_seq_k (fun K98 hK98 => ?_)
    refine wl_region ?_
    refine wl_give rfl (g_move _ (.int .i64 (((j : Nat) : Int))) rfl ?_)
    (try simp only [Act.put, List.setIfInBounds_toArray, List.set_cons_zero, List.set_cons_succ])
    refine wl_give rfl (g_move _ (.slice ao (n) (cap)) rfl ?_)
    (try simp only [Act.put, List.setIfInBounds_toArray, List.set_cons_zero, List.set_cons_succ])
    refine wl_give rfl (g_len _ 22 32 (ao) (n) (cap) (((n : Nat) : Int)) Try.underlying22 rfl rfl ?_)
    (try simp only [Act.put, List.setIfInBounds_toArray, List.set_cons_zero, List.set_cons_succ])
    refine wl_give rfl (g_ilss 3 _ _ .i64 (((j : Nat) : Int)) (((n : Nat) : Int)) false rfl rfl (decide_eq_false h1) ?_)
    (try simp only [Act.put, List.setIfInBounds_toArray, List.set_cons_zero, List.set_cons_succ])
    refine wl_give rfl (g_move _ (.bool false) rfl ?_)
    (try simp only [Act.put, List.setIfInBounds_toArray, List.set_cons_zero, List.set_cons_succ])
    refine wl_skip rfl ?_
    (try simp only [Act.put, List.setIfInBounds_toArray, List.set_cons_zero, List.set_cons_succ])
    refine wl_skip rfl ?_
    (try simp only [Act.put, List.setIfInBounds_toArray, List.set_cons_zero, List.set_cons_succ])
    refine wl_give rfl (g_pickf _ _ _ (.bool false) rfl rfl ?_)
    (try simp only [Act.put, List.setIfInBounds_toArray, List.set_cons_zero, List.set_cons_succ])
    refine wl_nil ?_
    refine hK98 _ _ ?_
    (try clear hK98 K98)
    refine wp_cond_false rfl ?_
    refine wp_exit ?_
    exact hcut j S L (tl [.int .u8 (a), .int .u8 (c), .slice ao (n) (cap), undef, undef, undef, .bool false, .pointer (some ⟨p7, 0, none⟩), .int .i64 (0), .map (some (w6.heap.size)), .int .i64 (((j : Nat) : Int)), t 11, t 12, t 13, t 14, undef, undef, .bool true, .bool false, .tuple #[.pointer (some ⟨p7, 0, none⟩), .int .i64 (0)], .int .u8 (a), .int .u8 (((q : Nat) : Int)), .int .i64 (((q : Nat) : Int)), .int .i64 (((q + 1 : Nat) : Int)), .int .u8 (c), .int .u8 (((r : Nat) : Int)), .int .i64 (((r : Nat) : Int)), .int .i64 (((r + 1 : Nat) : Int)), .tuple #[.pointer (some ⟨p7, 0, none⟩), .int .i64 (0)], .pointer (some ⟨p7, 0, none⟩), .int .i64 (0), .pointer (some ⟨p7, 0, none⟩), .bool false, .map (some (w6.heap.size)), .int .i64 (((j : Nat) : Int)), .slice ao (n) (cap), .int .i64 (((n : Nat) : Int)), .bool false, .bool false, undef, undef, .bool false, t 42, t 43, t 44, t 45, t 46, t 47, t 48, t 49, t 50, t 51, t 52, t 53, t 54, t 55, t 56, t 57, t 58, t 59, t 60, t 61, t 62, t 63, t 64, t 65, t 66, t 67, t 68, t 69, t 70, t 71, t 72, t 73, t 74, t 75, t 76, t 77, t 78, t 79, t 80, t 81, t 82, t 83, t 84, t 85, t 86, t 87, t 88, t 89, t 90, t 91, t 92, t 93, t 94, t 95, t 96, t 97, t 98, t 99, t 100, t 101, t 102, t 103, t 104, t 105, t 106, t 107, t 108, t 109, t 110, t 111, undef, undef, undef, undef, undef, undef, undef, undef, undef, undef, undef, undef, undef, undef, undef, undef, undef, undef, undef, undef, undef, undef]) _ hI (by omega) hM
theorem walk (a c : Int) (ao : Option Addr) (n cap : Nat) (w : World) (ha : 0 ≤ a ∧ a < 256) (hc : 0 ≤ c ∧ c < 256) (hl : LA w ao n) (h1 : n ≤ cap) (h2 : cap ≤ maxLen) : Calls Try.prog 4 #[.int .u8 a, .int .u8 c, .slice ao n cap] w fun e w' => e = .returned (.bool true) ∧ Below w.heap.size w w' := by
  have hmx : maxLen ≤ 9223372036854775807 := by decide
  obtain ⟨q, hq, hq2⟩ := rem64 a ha
  obtain ⟨r, hr, hr2⟩ := rem64 c hc
  exact walk_on a c ao n cap q r w hl (by omega) ⟨hq⟩ ⟨wrap_id _ (by omega) (by omega)⟩ ⟨by rw [wrap_id _ (by omega) (by omega)]; omega⟩ hq2 ⟨hr⟩ ⟨wrap_id _ (by omega) (by omega)⟩ ⟨by rw [wrap_id _ (by omega) (by omega)]; omega⟩ hr2
end Go.Proofs.Ytpkjocibgmjhdaa.bufferOnce
