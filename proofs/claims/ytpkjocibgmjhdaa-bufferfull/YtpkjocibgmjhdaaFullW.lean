/- A full interval has just as many things as may be, in the order in which they came first; others have their own room. -/
import Derived.Test.YtpkjocibgmjhdaaBg
namespace Go.Proofs.Ytpkjocibgmjhdaa.bufferFull
set_option maxRecDepth 10000
open Go Go.RowKit
set_option linter.unusedVariables false
set_option linter.unusedSimpArgs false

/-- What was seen is what lies there. -/
structure Fu (S : List (ByteArray × Value)) (L : List Thg) (j : Nat) : Prop where
  dom : ∀ s, s ∈ S.map (·.1) ↔ s ∈ ofI 3 L
  vals : ∀ z ∈ S, z.2 = .bool true
  all : ∀ t ∈ L, t.1 = 3
  le : L.length ≤ j
theorem fu_nil : Fu [] [] 0 := ⟨fun s => by simp [ofI], (fun z hz => by cases hz), (fun t ht => by cases ht), Nat.le_refl _⟩
section
variable {S : List (ByteArray × Value)} {L : List Thg} {j E : Nat} {s : ByteArray}
theorem fu_same (h : Fu S L j) : Fu S L (j + 1) := ⟨h.dom, h.vals, h.all, by have := h.le; omega⟩
theorem fu_look (h : Fu S L j) (hk : s ∈ ofI 3 L) : mlook S s = some (.bool true) := by
  cases hl : mlook S s with
  | none => exact absurd ((h.dom s).2 hk) (mlook_out hl)
  | some v =>
    unfold mlook at hl
    obtain ⟨z, hz, rfl⟩ := Option.map_eq_some_iff.1 hl
    rw [h.vals z (List.mem_of_find?_eq_some hz)]
theorem fu_out (h : Fu S L j) (hk : s ∉ ofI 3 L) : mlook S s = none := mlook_none fun h1 => hk ((h.dom s).1 h1)
theorem fu_ivs (h : Fu S L j) : (ivs L).length ≤ 1 := ivs_few (l := [3]) fun t ht => by rw [h.all t ht]; simp
theorem has_ofI (i : Int) (s : ByteArray) (L : List Thg) : hasT i s L = true ↔ s ∈ ofI i L := by rw [hasT_iff, mem_ofI]
theorem fu_in (h : Fu S L j) (hk : s ∈ ofI 3 L) : bpE ((E : Nat) : Int) 2 3 s L = 11 := by
  unfold bpE
  rw [if_neg (by decide), if_pos ((has_ofI 3 s L).2 hk)]
theorem fu_room (h : Fu S L j) (hk : s ∉ ofI 3 L) (hE : (ofI 3 L).length < E) : bpE ((E : Nat) : Int) 2 3 s L = 0 := by
  have := fu_ivs h
  unfold bpE
  rw [if_neg (by decide), if_neg (fun h1 => hk ((has_ofI 3 s L).1 h1)), if_neg (by omega)]
theorem fu_full (h : Fu S L j) (hk : s ∉ ofI 3 L) (hE : ¬ (ofI 3 L).length < E) : bpE ((E : Nat) : Int) 2 3 s L = 4 := by
  unfold bpE
  rw [if_neg (by decide), if_neg (fun h1 => hk ((has_ofI 3 s L).1 h1)), if_pos (.inl (by omega))]
theorem fu_add (h : Fu S L j) (hk : s ∉ ofI 3 L) : Fu (mput S s (.bool true)) (L ++ [(3, s)]) (j + 1) := by
  rw [mput_new (fun h1 => hk ((h.dom s).1 h1))]
  refine ⟨fun u => ?_, fun z hz => ?_, fun t ht => ?_, by have := h.le; simp; omega⟩
  · rw [List.map_append, List.mem_append, h.dom u, ofI_snoc, if_pos rfl, List.mem_append]; simp
  · rcases List.mem_append.1 hz with h1 | h1
    · exact h.vals z h1
    · obtain rfl := List.mem_singleton.1 h1
      rfl
  · rcases List.mem_append.1 ht with h1 | h1
    · exact h.all t h1
    · obtain rfl := List.mem_singleton.1 h1
      rfl
theorem fu_none (h : Fu S L j) {i : Int} (hi : i ≠ 3) : ofI i L = [] := ofI_nil.2 fun ⟨t, h1, h2⟩ => hi (by rw [← h2, h.all t h1])
theorem fu_four (h : Fu S L j) (hE : 1 ≤ E) (s : ByteArray) : bpE ((E : Nat) : Int) 2 4 s L = 0 := by
  have h1 := fu_ivs h
  have h2 := fu_none h (i := 4) (by decide)
  unfold bpE
  rw [if_neg (by decide), if_neg (fun h3 => by have := (has_ofI 4 s L).1 h3; rw [h2] at this; cases this), if_neg (by rw [h2]; simp; omega)]
theorem fu_five (h : Fu S L j) (h0 : 0 < (ofI 3 L).length) (s u : ByteArray) : bpE ((E : Nat) : Int) 2 5 s (L ++ [(4, u)]) = 4 := by
  have h2 : ofI 5 (L ++ [(4, u)]) = [] := by rw [ofI_snoc, if_neg (show ¬ (4 : Int) = 5 by decide), fu_none h (by decide)]; rfl
  have h3 : 2 ≤ (ivs (L ++ [(4, u)])).length := sub_length (a := [3, 4]) (by decide) fun z hz => by
    rcases List.mem_cons.1 hz with rfl | hz
    · obtain ⟨v, hv⟩ := List.exists_mem_of_length_pos h0
      exact mem_ivs.2 ⟨(3, v), List.mem_append_left _ (mem_ofI.1 hv), rfl⟩
    · obtain rfl := List.mem_singleton.1 hz
      exact mem_ivs.2 ⟨(4, u), List.mem_append_right _ (by simp), rfl⟩
  unfold bpE
  rw [if_neg (by decide), if_neg (fun h4 => by have := (has_ofI 5 s _).1 h4; rw [h2] at this; cases this), if_pos (.inr ⟨by rw [h2]; rfl, by omega⟩)]
theorem fu_end (h : Fu S L j) (u : ByteArray) : ofI 3 (L ++ [(4, u)]) = ofI 3 L ∧ notI 3 (L ++ [(4, u)]) = [(4, u)] := by
  constructor
  · rw [ofI_snoc, if_neg (show ¬ (4 : Int) = 3 by decide), List.append_nil]
  · unfold notI
    rw [List.filter_append, List.filter_eq_nil_iff.2 (fun t ht => by simp [h.all t ht])]
    rfl
theorem fu_last (hE : 1 ≤ E) (s u : ByteArray) : bpE ((E : Nat) : Int) 2 5 s [(4, u)] = 0 := by
  have h2 : ofI 5 [(4, u)] = [] := rfl
  unfold bpE
  rw [if_neg (by decide), if_neg (fun h4 => by have := (has_ofI 5 s _).1 h4; rw [h2] at this; cases this), if_neg (by rw [h2]; simp [ivs, ins]; omega)]
end
set_option maxHeartbeats 4000000 in
theorem walk_many (a : Int) (ao : Option Addr) (n cap q : Nat) (w : World) (hl : LV OkS w ao n) (hq : Shut (a.tmod 64 = ((q : Nat) : Int))) (hcv : Shut (IntKind.i64.wrap ((q : Nat) : Int) = ((q : Nat) : Int))) (hq1 : Shut (IntKind.i64.wrap (((q : Nat) : Int) + 1) = ((q + 1 : Nat) : Int))) (hq2 : q < 64) (hn : (100 : Int) < ((n : Nat) : Int)) : Calls Try.prog 6 #[.int .u8 a, .slice ao n cap] w fun e w' => e = .returned (.bool true) ∧ Below w.heap.size w w' := by
  have hM := Ms.refl w
  go_enter Try.func6, Try.ntmps6
  refine wp_seq_k (fun K1 hK1 => ?_)
  refine wl_region ?_
  refine wl_give rfl (g_assign _ (.bool false) rfl ?_)
  (try simp only [Act.put, List.setIfInBounds_toArray, List.set_cons_zero, List.set_cons_succ])
  refine wl_nil ?_
  refine hK1 _ _ ?_
  (try clear hK1 K1)
  refine wp_seq_k (fun K2 hK2 => ?_)
  refine wp_seq_k (fun K3 hK3 => ?_)
  refine wl_region ?_
  refine wl_give rfl (g_call 10 _ _ [] (kf10 _ _) rfl ((awake_any w).mono ?_))
  rintro e w4 ⟨rfl, t_⟩
  refine ⟨_, rfl, ?_⟩
  replace hM := hM.call t_
  clear t_
  (try simp only [Act.put, List.setIfInBounds_toArray, List.set_cons_zero, List.set_cons_succ])
  refine wl_give rfl (g_unot 4 _ true rfl ?_)
  (try simp only [Act.put, List.setIfInBounds_toArray, List.set_cons_zero, List.set_cons_succ])
  refine wl_nil ?_
  refine hK3 _ _ ?_
  (try clear hK3 K3)
  refine wp_cond_false rfl ?_
  refine wp_skip ?_
  refine hK2 _ _ ?_
  (try clear hK2 K2)
  refine wp_seq_k (fun K5 hK5 => ?_)
  refine wl_region ?_
  refine wl_give rfl (g_move _ (.int .u8 (a)) rfl ?_)
  (try simp only [Act.put, List.setIfInBounds_toArray, List.set_cons_zero, List.set_cons_succ])
  refine wl_give rfl (g_irem 5 _ _ .u8 (a) (64) (((q : Nat) : Int)) rfl rfl (by decide) hq.out ?_)
  (try simp only [Act.put, List.setIfInBounds_toArray, List.set_cons_zero, List.set_cons_succ])
  refine wl_give rfl (g_cv_5_3 _ (((q : Nat) : Int)) (((q : Nat) : Int)) rfl (hcv.out) ?_)
  (try simp only [Act.put, List.setIfInBounds_toArray, List.set_cons_zero, List.set_cons_succ])
  refine wl_give rfl (g_ia 3 _ _ .i64 (((q : Nat) : Int)) (1) (((q + 1 : Nat) : Int)) rfl rfl hq1.out ?_)
  (try simp only [Act.put, List.setIfInBounds_toArray, List.set_cons_zero, List.set_cons_succ])
  refine wl_give rfl (g_assign _ (.int .i64 (((q + 1 : Nat) : Int))) rfl ?_)
  (try simp only [Act.put, List.setIfInBounds_toArray, List.set_cons_zero, List.set_cons_succ])
  refine wl_nil ?_
  refine hK5 _ _ ?_
  (try clear hK5 K5)
  refine wp_seq_k (fun K6 hK6 => ?_)
  refine wl_region ?_
  refine wl_give rfl (g_move _ (.int .i64 (((q + 1 : Nat) : Int))) rfl ?_)
  (try simp only [Act.put, List.setIfInBounds_toArray, List.set_cons_zero, List.set_cons_succ])
  refine wl_give rfl (g_call 11 _ _ [.int .i64 (((q + 1 : Nat) : Int)), .int .i64 (2)] (kf11 _ _) rfl ((gnew (q + 1) (2) hM (by omega) (by omega) (by decide) (by decide)).mono ?_))
  rintro e w7 ⟨p8, rfl, h_⟩
  refine ⟨_, rfl, ?_⟩
  replace hM : Ms w w7 [bg p8 (q + 1) (2) (0) ([])] := h_
  clear h_
  (try simp only [Act.put, List.setIfInBounds_toArray, List.set_cons_zero, List.set_cons_succ])
  refine wl_give rfl (g_move _ (.tuple #[.pointer (some ⟨p8, 0, none⟩), .int .i64 (0)]) rfl ?_)
  (try simp only [Act.put, List.setIfInBounds_toArray, List.set_cons_zero, List.set_cons_succ])
  refine wl_give rfl (g_extract _ #[.pointer (some ⟨p8, 0, none⟩), .int .i64 (0)] 0 (.pointer (some ⟨p8, 0, none⟩)) rfl rfl ?_)
  (try simp only [Act.put, List.setIfInBounds_toArray, List.set_cons_zero, List.set_cons_succ])
  refine wl_give rfl (g_extract _ #[.pointer (some ⟨p8, 0, none⟩), .int .i64 (0)] 1 (.int .i64 (0)) rfl rfl ?_)
  (try simp only [Act.put, List.setIfInBounds_toArray, List.set_cons_zero, List.set_cons_succ])
  refine wl_give rfl (g_assign _ (.pointer (some ⟨p8, 0, none⟩)) rfl ?_)
  (try simp only [Act.put, List.setIfInBounds_toArray, List.set_cons_zero, List.set_cons_succ])
  refine wl_give rfl (g_assign _ (.int .i64 (0)) rfl ?_)
  (try simp only [Act.put, List.setIfInBounds_toArray, List.set_cons_zero, List.set_cons_succ])
  refine wl_nil ?_
  refine hK6 _ _ ?_
  (try clear hK6 K6)
  refine wp_seq_k (fun K9 hK9 => ?_)
  refine wp_seq_k (fun K10 hK10 => ?_)
  refine wl_region ?_
  refine wl_give rfl (g_move _ (.pointer (some ⟨p8, 0, none⟩)) rfl ?_)
  (try simp only [Act.put, List.setIfInBounds_toArray, List.set_cons_zero, List.set_cons_succ])
  refine wl_give rfl (g_peq _ ((some ⟨p8, 0, none⟩)) false rfl rfl ?_)
  (try simp only [Act.put, List.setIfInBounds_toArray, List.set_cons_zero, List.set_cons_succ])
  refine wl_give rfl (g_move _ (.bool false) rfl ?_)
  (try simp only [Act.put, List.setIfInBounds_toArray, List.set_cons_zero, List.set_cons_succ])
  refine wl_give rfl (g_move _ (.slice ao (n) (cap)) rfl ?_)
  (try simp only [Act.put, List.setIfInBounds_toArray, List.set_cons_zero, List.set_cons_succ])
  refine wl_give rfl (g_len _ 36 9 (ao) (n) (cap) (((n : Nat) : Int)) Try.underlying36 rfl rfl ?_)
  (try simp only [Act.put, List.setIfInBounds_toArray, List.set_cons_zero, List.set_cons_succ])
  refine wl_give rfl (g_igtr 3 _ _ .i64 (((n : Nat) : Int)) (100) true rfl rfl (decide_eq_true hn) ?_)
  (try simp only [Act.put, List.setIfInBounds_toArray, List.set_cons_zero, List.set_cons_succ])
  refine wl_give rfl (g_pickf _ _ _ (.bool true) rfl rfl ?_)
  (try simp only [Act.put, List.setIfInBounds_toArray, List.set_cons_zero, List.set_cons_succ])
  refine wl_nil ?_
  refine hK10 _ _ ?_
  (try clear hK10 K10)
  refine wp_cond_true rfl ?_
  refine wp_seq_k (fun K11 hK11 => ?_)
  refine wl_region ?_
  refine wl_give rfl (g_move _ (.pointer (some ⟨p8, 0, none⟩)) rfl ?_)
  (try simp only [Act.put, List.setIfInBounds_toArray, List.set_cons_zero, List.set_cons_succ])
  refine wl_give rfl (g_pn24 _ ((some ⟨p8, 0, none⟩)) true rfl rfl ?_)
  (try simp only [Act.put, List.setIfInBounds_toArray, List.set_cons_zero, List.set_cons_succ])
  refine wl_give rfl (g_assign _ (.bool true) rfl ?_)
  (try simp only [Act.put, List.setIfInBounds_toArray, List.set_cons_zero, List.set_cons_succ])
  refine wl_nil ?_
  refine hK11 _ _ ?_
  (try clear hK11 K11)
  refine wp_ret ?_
  go_ret
  exact ⟨rfl, hM.below⟩
set_option maxHeartbeats 4000000 in
theorem walk_few (a : Int) (ao : Option Addr) (n cap q : Nat) (w : World) (hl : LV OkS w ao n) (hq : Shut (a.tmod 64 = ((q : Nat) : Int))) (hcv : Shut (IntKind.i64.wrap ((q : Nat) : Int) = ((q : Nat) : Int))) (hq1 : Shut (IntKind.i64.wrap (((q : Nat) : Int) + 1) = ((q + 1 : Nat) : Int))) (hq2 : q < 64) (hn : ¬ (100 : Int) < ((n : Nat) : Int)) : Calls Try.prog 6 #[.int .u8 a, .slice ao n cap] w fun e w' => e = .returned (.bool true) ∧ Below w.heap.size w w' := by
  have hM := Ms.refl w
  go_enter Try.func6, Try.ntmps6
  refine wp_seq_k (fun K1 hK1 => ?_)
  refine wl_region ?_
  refine wl_give rfl (g_assign _ (.bool false) rfl ?_)
  (try simp only [Act.put, List.setIfInBounds_toArray, List.set_cons_zero, List.set_cons_succ])
  refine wl_nil ?_
  refine hK1 _ _ ?_
  (try clear hK1 K1)
  refine wp_seq_k (fun K2 hK2 => ?_)
  refine wp_seq_k (fun K3 hK3 => ?_)
  refine wl_region ?_
  refine wl_give rfl (g_call 10 _ _ [] (kf10 _ _) rfl ((awake_any w).mono ?_))
  rintro e w4 ⟨rfl, t_⟩
  refine ⟨_, rfl, ?_⟩
  replace hM := hM.call t_
  clear t_
  (try simp only [Act.put, List.setIfInBounds_toArray, List.set_cons_zero, List.set_cons_succ])
  refine wl_give rfl (g_unot 4 _ true rfl ?_)
  (try simp only [Act.put, List.setIfInBounds_toArray, List.set_cons_zero, List.set_cons_succ])
  refine wl_nil ?_
  refine hK3 _ _ ?_
  (try clear hK3 K3)
  refine wp_cond_false rfl ?_
  refine wp_skip ?_
  refine hK2 _ _ ?_
  (try clear hK2 K2)
  refine wp_seq_k (fun K5 hK5 => ?_)
  refine wl_region ?_
  refine wl_give rfl (g_move _ (.int .u8 (a)) rfl ?_)
  (try simp only [Act.put, List.setIfInBounds_toArray, List.set_cons_zero, List.set_cons_succ])
  refine wl_give rfl (g_irem 5 _ _ .u8 (a) (64) (((q : Nat) : Int)) rfl rfl (by decide) hq.out ?_)
  (try simp only [Act.put, List.setIfInBounds_toArray, List.set_cons_zero, List.set_cons_succ])
  refine wl_give rfl (g_cv_5_3 _ (((q : Nat) : Int)) (((q : Nat) : Int)) rfl (hcv.out) ?_)
  (try simp only [Act.put, List.setIfInBounds_toArray, List.set_cons_zero, List.set_cons_succ])
  refine wl_give rfl (g_ia 3 _ _ .i64 (((q : Nat) : Int)) (1) (((q + 1 : Nat) : Int)) rfl rfl hq1.out ?_)
  (try simp only [Act.put, List.setIfInBounds_toArray, List.set_cons_zero, List.set_cons_succ])
  refine wl_give rfl (g_assign _ (.int .i64 (((q + 1 : Nat) : Int))) rfl ?_)
  (try simp only [Act.put, List.setIfInBounds_toArray, List.set_cons_zero, List.set_cons_succ])
  refine wl_nil ?_
  refine hK5 _ _ ?_
  (try clear hK5 K5)
  refine wp_seq_k (fun K6 hK6 => ?_)
  refine wl_region ?_
  refine wl_give rfl (g_move _ (.int .i64 (((q + 1 : Nat) : Int))) rfl ?_)
  (try simp only [Act.put, List.setIfInBounds_toArray, List.set_cons_zero, List.set_cons_succ])
  refine wl_give rfl (g_call 11 _ _ [.int .i64 (((q + 1 : Nat) : Int)), .int .i64 (2)] (kf11 _ _) rfl ((gnew (q + 1) (2) hM (by omega) (by omega) (by decide) (by decide)).mono ?_))
  rintro e w7 ⟨p8, rfl, h_⟩
  refine ⟨_, rfl, ?_⟩
  replace hM : Ms w w7 [bg p8 (q + 1) (2) (0) ([])] := h_
  clear h_
  (try simp only [Act.put, List.setIfInBounds_toArray, List.set_cons_zero, List.set_cons_succ])
  refine wl_give rfl (g_move _ (.tuple #[.pointer (some ⟨p8, 0, none⟩), .int .i64 (0)]) rfl ?_)
  (try simp only [Act.put, List.setIfInBounds_toArray, List.set_cons_zero, List.set_cons_succ])
  refine wl_give rfl (g_extract _ #[.pointer (some ⟨p8, 0, none⟩), .int .i64 (0)] 0 (.pointer (some ⟨p8, 0, none⟩)) rfl rfl ?_)
  (try simp only [Act.put, List.setIfInBounds_toArray, List.set_cons_zero, List.set_cons_succ])
  refine wl_give rfl (g_extract _ #[.pointer (some ⟨p8, 0, none⟩), .int .i64 (0)] 1 (.int .i64 (0)) rfl rfl ?_)
  (try simp only [Act.put, List.setIfInBounds_toArray, List.set_cons_zero, List.set_cons_succ])
  refine wl_give rfl (g_assign _ (.pointer (some ⟨p8, 0, none⟩)) rfl ?_)
  (try simp only [Act.put, List.setIfInBounds_toArray, List.set_cons_zero, List.set_cons_succ])
  refine wl_give rfl (g_assign _ (.int .i64 (0)) rfl ?_)
  (try simp only [Act.put, List.setIfInBounds_toArray, List.set_cons_zero, List.set_cons_succ])
  refine wl_nil ?_
  refine hK6 _ _ ?_
  (try clear hK6 K6)
  refine wp_seq_k (fun K9 hK9 => ?_)
  refine wp_seq_k (fun K10 hK10 => ?_)
  refine wl_region ?_
  refine wl_give rfl (g_move _ (.pointer (some ⟨p8, 0, none⟩)) rfl ?_)
  (try simp only [Act.put, List.setIfInBounds_toArray, List.set_cons_zero, List.set_cons_succ])
  refine wl_give rfl (g_peq _ ((some ⟨p8, 0, none⟩)) false rfl rfl ?_)
  (try simp only [Act.put, List.setIfInBounds_toArray, List.set_cons_zero, List.set_cons_succ])
  refine wl_give rfl (g_move _ (.bool false) rfl ?_)
  (try simp only [Act.put, List.setIfInBounds_toArray, List.set_cons_zero, List.set_cons_succ])
  refine wl_give rfl (g_move _ (.slice ao (n) (cap)) rfl ?_)
  (try simp only [Act.put, List.setIfInBounds_toArray, List.set_cons_zero, List.set_cons_succ])
  refine wl_give rfl (g_len _ 36 9 (ao) (n) (cap) (((n : Nat) : Int)) Try.underlying36 rfl rfl ?_)
  (try simp only [Act.put, List.setIfInBounds_toArray, List.set_cons_zero, List.set_cons_succ])
  refine wl_give rfl (g_igtr 3 _ _ .i64 (((n : Nat) : Int)) (100) false rfl rfl (decide_eq_false hn) ?_)
  (try simp only [Act.put, List.setIfInBounds_toArray, List.set_cons_zero, List.set_cons_succ])
  refine wl_give rfl (g_pickf _ _ _ (.bool false) rfl rfl ?_)
  (try simp only [Act.put, List.setIfInBounds_toArray, List.set_cons_zero, List.set_cons_succ])
  refine wl_nil ?_
  refine hK10 _ _ ?_
  (try clear hK10 K10)
  refine wp_cond_false rfl ?_
  refine wp_skip ?_
  refine hK9 _ _ ?_
  (try clear hK9 K9)
  refine wp_seq_k (fun K11 hK11 => ?_)
  refine wl_region ?_
  refine wl_give rfl (g_mmap (enc := kS) hM ?_)
  intro w12 h_
  replace hM : Ms w w12 [mp kS (w7.heap.size) ([]), bg p8 (q + 1) (2) (0) ([])] := h_
  clear h_
  (try simp only [Act.put, List.setIfInBounds_toArray, List.set_cons_zero, List.set_cons_succ])
  refine wl_give rfl (g_assign _ (.map (some (w7.heap.size))) rfl ?_)
  (try simp only [Act.put, List.setIfInBounds_toArray, List.set_cons_zero, List.set_cons_succ])
  refine wl_nil ?_
  refine hK11 _ _ ?_
  (try clear hK11 K11)
  refine wp_seq_k (fun K13 hK13 => ?_)
  refine wl_region ?_
  refine wl_give rfl (g_bs0 36 9 1 Try.underlying36 szof9 _ Try.zeroValue9 hM ?_)
  intro w14 h_
  replace hM : Ms w w14 [row 9 1 (.slice (some ⟨w12.heap.size, 0, none⟩) 0 0) (0) ([]), mp kS (w7.heap.size) ([]), bg p8 (q + 1) (2) (0) ([])] := h_
  clear h_
  (try simp only [Act.put, List.setIfInBounds_toArray, List.set_cons_zero, List.set_cons_succ])
  refine wl_give rfl (g_assign _ (.slice (some ⟨w12.heap.size, 0, none⟩) (0) (0)) rfl ?_)
  (try simp only [Act.put, List.setIfInBounds_toArray, List.set_cons_zero, List.set_cons_succ])
  refine wl_nil ?_
  refine hK13 _ _ ?_
  (try clear hK13 K13)
  refine wp_seq_k (fun K15 hK15 => ?_)
  have hcut : ∀ (j : Nat) (S : List (ByteArray × Value)) (L : List Thg) (v t11 t37 t38 t39 t40 t41 t42 t43 t44 t45 t46 t47 t48 t49 t50 t51 t52 t53 t54 t55 t56 t57 t58 t59 t60 t61 t62 t34 t35 t36 : Value) (wr : World) (hI : Shut (Fu S L j)) (hj : j ≤ 100) (hM : Ms w wr [row 9 1 v ((ofI 3 L).length) ((ofI 3 L).map Value.string), bg p8 (q + 1) (2) (j) (L), mp kS (w7.heap.size) (S)]), K15 ⟨#[.int .u8 (a), .slice ao (n) (cap), undef, undef, .bool false, .int .i64 (((q + 1 : Nat) : Int)), .pointer (some ⟨p8, 0, none⟩), .int .i64 (0), .map (some (w7.heap.size)), v, undef, t11, .bool true, .bool false, .int .u8 (a), .int .u8 (((q : Nat) : Int)), .int .i64 (((q : Nat) : Int)), .int .i64 (((q + 1 : Nat) : Int)), .tuple #[.pointer (some ⟨p8, 0, none⟩), .int .i64 (0)], .int .i64 (((q + 1 : Nat) : Int)), .tuple #[.pointer (some ⟨p8, 0, none⟩), .int .i64 (0)], .pointer (some ⟨p8, 0, none⟩), .int .i64 (0), .pointer (some ⟨p8, 0, none⟩), .bool false, .bool false, .slice ao (n) (cap), .int .i64 (((n : Nat) : Int)), .bool false, .bool false, undef, undef, .map (some (w7.heap.size)), .slice (some ⟨w12.heap.size, 0, none⟩) (0) (0), t34, t35, t36, t37, t38, t39, t40, t41, t42, t43, t44, t45, t46, t47, t48, t49, t50, t51, t52, t53, t54, t55, t56, t57, t58, t59, t60, t61, t62, undef, undef, undef, undef, undef, undef, undef, undef, undef, undef, undef, undef, undef, undef, undef, undef, undef, undef, undef, undef], []⟩ wr := by
    clear hM
    intro j S L v t11 t37 t38 t39 t40 t41 t42 t43 t44 t45 t46 t47 t48 t49 t50 t51 t52 t53 t54 t55 t56 t57 t58 t59 t60 t61 t62 t34 t35 t36 wr hI hj hM
    obtain ⟨o1, c1, rfl, _⟩ := row_slice hM
    have hle := hI.out.le
    have hle3 := ofI_le 3 L
    refine hK15 _ _ ?_
    clear hK15 K15
    refine wp_seq_k (fun K16 hK16 => ?_)
    refine wp_seq_k (fun K17 hK17 => ?_)
    refine wl_region ?_
    refine wl_give rfl (g_move _ (.pointer (some ⟨p8, 0, none⟩)) rfl ?_)
    (try simp only [Act.put, List.setIfInBounds_toArray, List.set_cons_zero, List.set_cons_succ])
    refine wl_give rfl (g_call 14 _ _ [.pointer (some ⟨p8, 0, none⟩), .int .i64 (4), .string (⟨#[120]⟩)] (kf14 _ _) rfl ((gput_0 (show Ms w wr [bg p8 (q + 1) (2) (j) (L), row 9 1 (.slice o1 (ofI 3 L).length c1) ((ofI 3 L).length) ((ofI 3 L).map Value.string), mp kS (w7.heap.size) (S)] from (hM.up 1 rfl)) (by omega) (by omega) (by decide) (by omega) ⟨fu_four hI.out (by omega) _⟩).mono ?_))
    rintro e w18 ⟨rfl, h_⟩
    refine ⟨_, rfl, ?_⟩
    replace hM : Ms w w18 [bg p8 (q + 1) (2) (j) (L ++ [(4, ⟨#[120]⟩)]), row 9 1 (.slice o1 (ofI 3 L).length c1) ((ofI 3 L).length) ((ofI 3 L).map Value.string), mp kS (w7.heap.size) (S)] := h_
    clear h_
    (try simp only [Act.put, List.setIfInBounds_toArray, List.set_cons_zero, List.set_cons_succ])
    refine wl_give rfl (g_ine 25 _ _ .i64 (0) (0) false rfl rfl (by decide) ?_)
    (try simp only [Act.put, List.setIfInBounds_toArray, List.set_cons_zero, List.set_cons_succ])
    refine wl_nil ?_
    refine hK17 _ _ ?_
    (try clear hK17 K17)
    refine wp_cond_false rfl ?_
    refine wp_skip ?_
    refine hK16 _ _ ?_
    (try clear hK16 K16)
    refine wp_seq_k (fun K19 hK19 => ?_)
    by_cases hpos : (0 : Int) < (((ofI 3 L).length : Nat) : Int)
    · skip
      refine wp_seq_k (fun K20 hK20 => ?_)
      refine wl_region ?_
      refine wl_give rfl (g_move _ (.slice o1 ((ofI 3 L).length) (c1)) rfl ?_)
      (try simp only [Act.put, List.setIfInBounds_toArray, List.set_cons_zero, List.set_cons_succ])
      refine wl_give rfl (g_len _ 36 9 (o1) ((ofI 3 L).length) (c1) ((((ofI 3 L).length : Nat) : Int)) Try.underlying36 rfl rfl ?_)
      (try simp only [Act.put, List.setIfInBounds_toArray, List.set_cons_zero, List.set_cons_succ])
      refine wl_give rfl (g_igtr 3 _ _ .i64 ((((ofI 3 L).length : Nat) : Int)) (0) true rfl rfl (decide_eq_true hpos) ?_)
      (try simp only [Act.put, List.setIfInBounds_toArray, List.set_cons_zero, List.set_cons_succ])
      refine wl_give rfl (g_move _ (.bool true) rfl ?_)
      (try simp only [Act.put, List.setIfInBounds_toArray, List.set_cons_zero, List.set_cons_succ])
      refine wl_give rfl (g_move _ (.pointer (some ⟨p8, 0, none⟩)) rfl ?_)
      (try simp only [Act.put, List.setIfInBounds_toArray, List.set_cons_zero, List.set_cons_succ])
      refine wl_give rfl (g_call 14 _ _ [.pointer (some ⟨p8, 0, none⟩), .int .i64 (5), .string (⟨#[121]⟩)] (kf14 _ _) rfl ((gput_n hM (by omega) (by omega) (by decide) (by omega) ⟨fu_five hI.out (by omega) _ _⟩ (by decide)).mono ?_))
      rintro e w21 ⟨rfl, h_⟩
      refine ⟨_, rfl, ?_⟩
      replace hM : Ms w w21 [bg p8 (q + 1) (2) (j + 1) (L ++ [(4, ⟨#[120]⟩)]), row 9 1 (.slice o1 (ofI 3 L).length c1) ((ofI 3 L).length) ((ofI 3 L).map Value.string), mp kS (w7.heap.size) (S)] := h_
      clear h_
      (try simp only [Act.put, List.setIfInBounds_toArray, List.set_cons_zero, List.set_cons_succ])
      refine wl_give rfl (g_ine 25 _ _ .i64 (4) (4) false rfl rfl (by decide) ?_)
      (try simp only [Act.put, List.setIfInBounds_toArray, List.set_cons_zero, List.set_cons_succ])
      refine wl_give rfl (g_pickt _ _ _ (.bool false) rfl rfl ?_)
      (try simp only [Act.put, List.setIfInBounds_toArray, List.set_cons_zero, List.set_cons_succ])
      refine wl_nil ?_
      refine hK20 _ _ ?_
      (try clear hK20 K20)
      refine wp_cond_false rfl ?_
      refine wp_skip ?_
      refine hK19 _ _ ?_
      (try clear hK19 K19)
      refine wp_seq_k (fun K22 hK22 => ?_)
      refine wl_region ?_
      refine wl_give rfl (g_move _ (.pointer (some ⟨p8, 0, none⟩)) rfl ?_)
      (try simp only [Act.put, List.setIfInBounds_toArray, List.set_cons_zero, List.set_cons_succ])
      refine wl_give rfl (g_call 17 _ _ [.pointer (some ⟨p8, 0, none⟩), .int .i64 (3)] (kf17 _ _) rfl ((to_row (gtake (ts := ofI 3 L) (L' := [(4, ⟨#[120]⟩)]) hM (by simp; omega) ((fu_end hI.out _).1) ((fu_end hI.out _).2))).mono ?_))
      rintro e w23 ⟨o24, k25, rfl, h_⟩
      refine ⟨_, rfl, ?_⟩
      replace hM : Ms w w23 [row 9 1 (.slice o24 ((ofI 3 L).length) k25) ((ofI 3 L).length) ((ofI 3 L).map Value.string), bg p8 (q + 1) (2) (j + 1) ([(4, ⟨#[120]⟩)]), row 9 1 (.slice o1 (ofI 3 L).length c1) ((ofI 3 L).length) ((ofI 3 L).map Value.string), mp kS (w7.heap.size) (S)] := h_
      clear h_
      (try simp only [Act.put, List.setIfInBounds_toArray, List.set_cons_zero, List.set_cons_succ])
      refine wl_give rfl (g_move _ (.slice o1 ((ofI 3 L).length) (c1)) rfl ?_)
      (try simp only [Act.put, List.setIfInBounds_toArray, List.set_cons_zero, List.set_cons_succ])
      refine wl_give rfl (g_call 16 _ _ [.slice o24 ((ofI 3 L).length) (k25), .slice o1 ((ofI 3 L).length) (c1)] (kf16 _ _) rfl ((texts_any (xs := ofI 3 L) (ys := ofI 3 L) (r := true) (show Ms w w23 [row 9 1 (.slice o24 ((ofI 3 L).length) k25) ((ofI 3 L).length) ((ofI 3 L).map Value.string), row 9 1 (.slice o1 (ofI 3 L).length c1) ((ofI 3 L).length) ((ofI 3 L).map Value.string), bg p8 (q + 1) (2) (j + 1) ([(4, ⟨#[120]⟩)]), mp kS (w7.heap.size) (S)] from ((hM.up 2 rfl).up 1 rfl)) (by omega) (decide_eq_true rfl)).mono ?_))
      rintro e w26 ⟨rfl, h_⟩
      refine ⟨_, rfl, ?_⟩
      replace hM : Ms w w26 [row 9 1 (.slice o24 ((ofI 3 L).length) k25) ((ofI 3 L).length) ((ofI 3 L).map Value.string), row 9 1 (.slice o1 (ofI 3 L).length c1) ((ofI 3 L).length) ((ofI 3 L).map Value.string), bg p8 (q + 1) (2) (j + 1) ([(4, ⟨#[120]⟩)]), mp kS (w7.heap.size) (S)] := h_
      clear h_
      (try simp only [Act.put, List.setIfInBounds_toArray, List.set_cons_zero, List.set_cons_succ])
      refine wl_give rfl (g_move _ (.bool true) rfl ?_)
      (try simp only [Act.put, List.setIfInBounds_toArray, List.set_cons_zero, List.set_cons_succ])
      refine wl_give rfl (g_move _ (.pointer (some ⟨p8, 0, none⟩)) rfl ?_)
      (try simp only [Act.put, List.setIfInBounds_toArray, List.set_cons_zero, List.set_cons_succ])
      refine wl_give rfl (g_call 14 _ _ [.pointer (some ⟨p8, 0, none⟩), .int .i64 (5), .string (⟨#[121]⟩)] (kf14 _ _) rfl ((gput_0 (show Ms w w26 [bg p8 (q + 1) (2) (j + 1) ([(4, ⟨#[120]⟩)]), row 9 1 (.slice o24 ((ofI 3 L).length) k25) ((ofI 3 L).length) ((ofI 3 L).map Value.string), row 9 1 (.slice o1 (ofI 3 L).length c1) ((ofI 3 L).length) ((ofI 3 L).map Value.string), mp kS (w7.heap.size) (S)] from (hM.up 2 rfl)) (by omega) (by omega) (by decide) (by omega) ⟨fu_last (by omega) _ _⟩).mono ?_))
      rintro e w27 ⟨rfl, h_⟩
      refine ⟨_, rfl, ?_⟩
      replace hM : Ms w w27 [bg p8 (q + 1) (2) (j + 1) ([(4, ⟨#[120]⟩)] ++ [(5, ⟨#[121]⟩)]), row 9 1 (.slice o24 ((ofI 3 L).length) k25) ((ofI 3 L).length) ((ofI 3 L).map Value.string), row 9 1 (.slice o1 (ofI 3 L).length c1) ((ofI 3 L).length) ((ofI 3 L).map Value.string), mp kS (w7.heap.size) (S)] := h_
      clear h_
      (try simp only [Act.put, List.setIfInBounds_toArray, List.set_cons_zero, List.set_cons_succ])
      refine wl_give rfl (g_ieq 25 _ _ .i64 (0) (0) true rfl rfl (by decide) ?_)
      (try simp only [Act.put, List.setIfInBounds_toArray, List.set_cons_zero, List.set_cons_succ])
      refine wl_give rfl (g_pickt _ _ _ (.bool true) rfl rfl ?_)
      (try simp only [Act.put, List.setIfInBounds_toArray, List.set_cons_zero, List.set_cons_succ])
      refine wl_give rfl (g_assign _ (.bool true) rfl ?_)
      (try simp only [Act.put, List.setIfInBounds_toArray, List.set_cons_zero, List.set_cons_succ])
      refine wl_nil ?_
      refine hK22 _ _ ?_
      (try clear hK22 K22)
      refine wp_ret ?_
      go_ret
      exact ⟨rfl, hM.below⟩
    · skip
      refine wp_seq_k (fun K28 hK28 => ?_)
      refine wl_region ?_
      refine wl_give rfl (g_move _ (.slice o1 ((ofI 3 L).length) (c1)) rfl ?_)
      (try simp only [Act.put, List.setIfInBounds_toArray, List.set_cons_zero, List.set_cons_succ])
      refine wl_give rfl (g_len _ 36 9 (o1) ((ofI 3 L).length) (c1) ((((ofI 3 L).length : Nat) : Int)) Try.underlying36 rfl rfl ?_)
      (try simp only [Act.put, List.setIfInBounds_toArray, List.set_cons_zero, List.set_cons_succ])
      refine wl_give rfl (g_igtr 3 _ _ .i64 ((((ofI 3 L).length : Nat) : Int)) (0) false rfl rfl (decide_eq_false hpos) ?_)
      (try simp only [Act.put, List.setIfInBounds_toArray, List.set_cons_zero, List.set_cons_succ])
      refine wl_give rfl (g_move _ (.bool false) rfl ?_)
      (try simp only [Act.put, List.setIfInBounds_toArray, List.set_cons_zero, List.set_cons_succ])
      refine wl_skip rfl ?_
      (try simp only [Act.put, List.setIfInBounds_toArray, List.set_cons_zero, List.set_cons_succ])
      refine wl_skip rfl ?_
      (try simp only [Act.put, List.setIfInBounds_toArray, List.set_cons_zero, List.set_cons_succ])
      refine wl_skip rfl ?_
      (try simp only [Act.put, List.setIfInBounds_toArray, List.set_cons_zero, List.set_cons_succ])
      refine wl_give rfl (g_pickf _ _ _ (.bool false) rfl rfl ?_)
      (try simp only [Act.put, List.setIfInBounds_toArray, List.set_cons_zero, List.set_cons_succ])
      refine wl_nil ?_
      refine hK28 _ _ ?_
      (try clear hK28 K28)
      refine wp_cond_false rfl ?_
      refine wp_skip ?_
      refine hK19 _ _ ?_
      (try clear hK19 K19)
      refine wp_seq_k (fun K29 hK29 => ?_)
      refine wl_region ?_
      refine wl_give rfl (g_move _ (.pointer (some ⟨p8, 0, none⟩)) rfl ?_)
      (try simp only [Act.put, List.setIfInBounds_toArray, List.set_cons_zero, List.set_cons_succ])
      refine wl_give rfl (g_call 17 _ _ [.pointer (some ⟨p8, 0, none⟩), .int .i64 (3)] (kf17 _ _) rfl ((to_row (gtake (ts := ofI 3 L) (L' := [(4, ⟨#[120]⟩)]) hM (by simp; omega) ((fu_end hI.out _).1) ((fu_end hI.out _).2))).mono ?_))
      rintro e w30 ⟨o31, k32, rfl, h_⟩
      refine ⟨_, rfl, ?_⟩
      replace hM : Ms w w30 [row 9 1 (.slice o31 ((ofI 3 L).length) k32) ((ofI 3 L).length) ((ofI 3 L).map Value.string), bg p8 (q + 1) (2) (j) ([(4, ⟨#[120]⟩)]), row 9 1 (.slice o1 (ofI 3 L).length c1) ((ofI 3 L).length) ((ofI 3 L).map Value.string), mp kS (w7.heap.size) (S)] := h_
      clear h_
      (try simp only [Act.put, List.setIfInBounds_toArray, List.set_cons_zero, List.set_cons_succ])
      refine wl_give rfl (g_move _ (.slice o1 ((ofI 3 L).length) (c1)) rfl ?_)
      (try simp only [Act.put, List.setIfInBounds_toArray, List.set_cons_zero, List.set_cons_succ])
      refine wl_give rfl (g_call 16 _ _ [.slice o31 ((ofI 3 L).length) (k32), .slice o1 ((ofI 3 L).length) (c1)] (kf16 _ _) rfl ((texts_any (xs := ofI 3 L) (ys := ofI 3 L) (r := true) (show Ms w w30 [row 9 1 (.slice o31 ((ofI 3 L).length) k32) ((ofI 3 L).length) ((ofI 3 L).map Value.string), row 9 1 (.slice o1 (ofI 3 L).length c1) ((ofI 3 L).length) ((ofI 3 L).map Value.string), bg p8 (q + 1) (2) (j) ([(4, ⟨#[120]⟩)]), mp kS (w7.heap.size) (S)] from ((hM.up 2 rfl).up 1 rfl)) (by omega) (decide_eq_true rfl)).mono ?_))
      rintro e w33 ⟨rfl, h_⟩
      refine ⟨_, rfl, ?_⟩
      replace hM : Ms w w33 [row 9 1 (.slice o31 ((ofI 3 L).length) k32) ((ofI 3 L).length) ((ofI 3 L).map Value.string), row 9 1 (.slice o1 (ofI 3 L).length c1) ((ofI 3 L).length) ((ofI 3 L).map Value.string), bg p8 (q + 1) (2) (j) ([(4, ⟨#[120]⟩)]), mp kS (w7.heap.size) (S)] := h_
      clear h_
      (try simp only [Act.put, List.setIfInBounds_toArray, List.set_cons_zero, List.set_cons_succ])
      refine wl_give rfl (g_move _ (.bool true) rfl ?_)
      (try simp only [Act.put, List.setIfInBounds_toArray, List.set_cons_zero, List.set_cons_succ])
      refine wl_give rfl (g_move _ (.pointer (some ⟨p8, 0, none⟩)) rfl ?_)
      (try simp only [Act.put, List.setIfInBounds_toArray, List.set_cons_zero, List.set_cons_succ])
      refine wl_give rfl (g_call 14 _ _ [.pointer (some ⟨p8, 0, none⟩), .int .i64 (5), .string (⟨#[121]⟩)] (kf14 _ _) rfl ((gput_0 (show Ms w w33 [bg p8 (q + 1) (2) (j) ([(4, ⟨#[120]⟩)]), row 9 1 (.slice o31 ((ofI 3 L).length) k32) ((ofI 3 L).length) ((ofI 3 L).map Value.string), row 9 1 (.slice o1 (ofI 3 L).length c1) ((ofI 3 L).length) ((ofI 3 L).map Value.string), mp kS (w7.heap.size) (S)] from (hM.up 2 rfl)) (by omega) (by omega) (by decide) (by omega) ⟨fu_last (by omega) _ _⟩).mono ?_))
      rintro e w34 ⟨rfl, h_⟩
      refine ⟨_, rfl, ?_⟩
      replace hM : Ms w w34 [bg p8 (q + 1) (2) (j) ([(4, ⟨#[120]⟩)] ++ [(5, ⟨#[121]⟩)]), row 9 1 (.slice o31 ((ofI 3 L).length) k32) ((ofI 3 L).length) ((ofI 3 L).map Value.string), row 9 1 (.slice o1 (ofI 3 L).length c1) ((ofI 3 L).length) ((ofI 3 L).map Value.string), mp kS (w7.heap.size) (S)] := h_
      clear h_
      (try simp only [Act.put, List.setIfInBounds_toArray, List.set_cons_zero, List.set_cons_succ])
      refine wl_give rfl (g_ieq 25 _ _ .i64 (0) (0) true rfl rfl (by decide) ?_)
      (try simp only [Act.put, List.setIfInBounds_toArray, List.set_cons_zero, List.set_cons_succ])
      refine wl_give rfl (g_pickt _ _ _ (.bool true) rfl rfl ?_)
      (try simp only [Act.put, List.setIfInBounds_toArray, List.set_cons_zero, List.set_cons_succ])
      refine wl_give rfl (g_assign _ (.bool true) rfl ?_)
      (try simp only [Act.put, List.setIfInBounds_toArray, List.set_cons_zero, List.set_cons_succ])
      refine wl_nil ?_
      refine hK29 _ _ ?_
      (try clear hK29 K29)
      refine wp_ret ?_
      go_ret
      exact ⟨rfl, hM.below⟩
  (try clear hK15)
  refine wp_seq_k (fun K35 hK35 => ?_)
  refine wl_region ?_
  refine wl_give rfl (g_move _ (.slice ao (n) (cap)) rfl ?_)
  (try simp only [Act.put, List.setIfInBounds_toArray, List.set_cons_zero, List.set_cons_succ])
  refine wl_give rfl (g_len _ 36 9 (ao) (n) (cap) (((n : Nat) : Int)) Try.underlying36 rfl rfl ?_)
  (try simp only [Act.put, List.setIfInBounds_toArray, List.set_cons_zero, List.set_cons_succ])
  refine wl_give rfl (g_move _ (.int .i64 (0)) rfl ?_)
  (try simp only [Act.put, List.setIfInBounds_toArray, List.set_cons_zero, List.set_cons_succ])
  refine wl_nil ?_
  refine hK35 _ _ ?_
  (try clear hK35 K35)
  refine wp_block ?_
  have h9 := (((hM.up 1 rfl).up 2 rfl).up 2 rfl)
  refine wp_rounds (fun r st wr => ∃ (j : Nat) (S : List (ByteArray × Value)) (L : List Thg) (v t11 t37 t38 t39 t40 t41 t42 t43 t44 t45 t46 t47 t48 t49 t50 t51 t52 t53 t54 t55 t56 t57 t58 t59 t60 t61 t62 : Value), st = ⟨#[.int .u8 (a), .slice ao (n) (cap), undef, undef, .bool false, .int .i64 (((q + 1 : Nat) : Int)), .pointer (some ⟨p8, 0, none⟩), .int .i64 (0), .map (some (w7.heap.size)), v, undef, t11, .bool true, .bool false, .int .u8 (a), .int .u8 (((q : Nat) : Int)), .int .i64 (((q : Nat) : Int)), .int .i64 (((q + 1 : Nat) : Int)), .tuple #[.pointer (some ⟨p8, 0, none⟩), .int .i64 (0)], .int .i64 (((q + 1 : Nat) : Int)), .tuple #[.pointer (some ⟨p8, 0, none⟩), .int .i64 (0)], .pointer (some ⟨p8, 0, none⟩), .int .i64 (0), .pointer (some ⟨p8, 0, none⟩), .bool false, .bool false, .slice ao (n) (cap), .int .i64 (((n : Nat) : Int)), .bool false, .bool false, undef, undef, .map (some (w7.heap.size)), .slice (some ⟨w12.heap.size, 0, none⟩) (0) (0), .slice ao (n) (cap), .int .i64 (((n : Nat) : Int)), .int .i64 ((j : Nat) : Int), t37, t38, t39, t40, t41, t42, t43, t44, t45, t46, t47, t48, t49, t50, t51, t52, t53, t54, t55, t56, t57, t58, t59, t60, t61, t62, undef, undef, undef, undef, undef, undef, undef, undef, undef, undef, undef, undef, undef, undef, undef, undef, undef, undef, undef, undef], []⟩ ∧ j + r = n ∧ Shut (Fu S L j) ∧ Ms w wr [row 9 1 v ((ofI 3 L).length) ((ofI 3 L).map Value.string), bg p8 (q + 1) (2) (j) (L), mp kS (w7.heap.size) (S)]) n ⟨0, [], [], _, _, _, _, _, _, _, _, _, _, _, _, _, _, _, _, _, _, _, _, _, _, _, _, _, _, _, _, rfl, Nat.zero_add _, ⟨fu_nil⟩, h9⟩ ?_
  clear hM h9
  rintro r st wr ⟨j, S, L, v, t11, t37, t38, t39, t40, t41, t42, t43, t44, t45, t46, t47, t48, t49, t50, t51, t52, t53, t54, t55, t56, t57, t58, t59, t60, t61, t62, rfl, hj, hI, hM⟩
  by_cases h1 : ((j : Nat) : Int) < ((n : Nat) : Int)
  · skip
    obtain ⟨b, o, u, rfl, hcell, s, rfl⟩ := hl.on hM j (by omega)
    have hjn : j < n := by omega
    have hj1 : Shut (IntKind.i64.wrap (((j : Nat) : Int) + 1) = ((j + 1 : Nat) : Int)) := ⟨by rw [wrap_id _ (by omega) (by omega)]; omega⟩
    have hle := hI.out.le
    have hle3 := ofI_le 3 L
    refine wp_seq_k (fun K36 hK36 => ?_)
    refine wl_region ?_
    refine wl_give rfl (g_ilss 3 _ _ .i64 (((j : Nat) : Int)) (((n : Nat) : Int)) true rfl rfl (decide_eq_true h1) ?_)
    (try simp only [Act.put, List.setIfInBounds_toArray, List.set_cons_zero, List.set_cons_succ])
    refine wl_nil ?_
    refine hK36 _ _ ?_
    (try clear hK36 K36)
    refine wp_seq_k (fun K37 hK37 => ?_)
    refine wp_cond_true rfl ?_
    refine wp_skip ?_
    refine hK37 _ _ ?_
    (try clear hK37 K37)
    refine wp_seq_k (fun K38 hK38 => ?_)
    refine wp_block ?_
    refine wp_seq_k (fun K39 hK39 => ?_)
    refine wl_region ?_
    refine wl_give rfl (g_ix _ _ 36 9 1 Try.underlying36 szof9 b o n cap j (o + j * 1) _ rfl rfl rfl hjn rfl ?_)
    (try simp only [Act.put, List.setIfInBounds_toArray, List.set_cons_zero, List.set_cons_succ])
    refine wl_give rfl (g_ld1 9 _ (b) (o + j * 1) _ rfl (ld9 _ _ _ _ (by rw [Nat.mul_one]; exact hcell)) ?_)
    (try simp only [Act.put, List.setIfInBounds_toArray, List.set_cons_zero, List.set_cons_succ])
    refine wl_give rfl (g_assign _ (.string (s)) rfl ?_)
    (try simp only [Act.put, List.setIfInBounds_toArray, List.set_cons_zero, List.set_cons_succ])
    refine wl_nil ?_
    refine hK39 _ _ ?_
    (try clear hK39 K39)
    refine wp_seq_k (fun K40 hK40 => ?_)
    by_cases hs : (200 : Int) < ((s.size : Nat) : Int)
    · skip
      refine wp_seq_k (fun K41 hK41 => ?_)
      refine wl_region ?_
      refine wl_give rfl (g_move _ (.string (s)) rfl ?_)
      (try simp only [Act.put, List.setIfInBounds_toArray, List.set_cons_zero, List.set_cons_succ])
      refine wl_give rfl (g_lenT _ (s) ((((s).size : Nat) : Int)) rfl rfl ?_)
      (try simp only [Act.put, List.setIfInBounds_toArray, List.set_cons_zero, List.set_cons_succ])
      refine wl_give rfl (g_igtr 3 _ _ .i64 ((((s).size : Nat) : Int)) (200) true rfl rfl (decide_eq_true hs) ?_)
      (try simp only [Act.put, List.setIfInBounds_toArray, List.set_cons_zero, List.set_cons_succ])
      refine wl_nil ?_
      refine hK41 _ _ ?_
      (try clear hK41 K41)
      refine wp_cond_true rfl ?_
      refine wp_seq_k (fun K42 hK42 => ?_)
      refine wl_region ?_
      refine wl_give rfl (g_assign _ (.bool true) rfl ?_)
      (try simp only [Act.put, List.setIfInBounds_toArray, List.set_cons_zero, List.set_cons_succ])
      refine wl_nil ?_
      refine hK42 _ _ ?_
      (try clear hK42 K42)
      refine wp_ret ?_
      go_ret
      exact ⟨rfl, hM.below⟩
    · skip
      refine wp_seq_k (fun K43 hK43 => ?_)
      refine wl_region ?_
      refine wl_give rfl (g_move _ (.string (s)) rfl ?_)
      (try simp only [Act.put, List.setIfInBounds_toArray, List.set_cons_zero, List.set_cons_succ])
      refine wl_give rfl (g_lenT _ (s) ((((s).size : Nat) : Int)) rfl rfl ?_)
      (try simp only [Act.put, List.setIfInBounds_toArray, List.set_cons_zero, List.set_cons_succ])
      refine wl_give rfl (g_igtr 3 _ _ .i64 ((((s).size : Nat) : Int)) (200) false rfl rfl (decide_eq_false hs) ?_)
      (try simp only [Act.put, List.setIfInBounds_toArray, List.set_cons_zero, List.set_cons_succ])
      refine wl_nil ?_
      refine hK43 _ _ ?_
      (try clear hK43 K43)
      refine wp_cond_false rfl ?_
      refine wp_skip ?_
      refine hK40 _ _ ?_
      (try clear hK40 K40)
      obtain ⟨o1, c1, rfl, _⟩ := row_slice hM
      by_cases hin : s ∈ ofI 3 L
      · skip
        refine wp_seq_k (fun K44 hK44 => ?_)
        refine wl_region ?_
        refine wl_give rfl (g_move _ (.pointer (some ⟨p8, 0, none⟩)) rfl ?_)
        (try simp only [Act.put, List.setIfInBounds_toArray, List.set_cons_zero, List.set_cons_succ])
        refine wl_give rfl (g_move _ (.string (s)) rfl ?_)
        (try simp only [Act.put, List.setIfInBounds_toArray, List.set_cons_zero, List.set_cons_succ])
        refine wl_give rfl (g_call 14 _ _ [.pointer (some ⟨p8, 0, none⟩), .int .i64 (3), .string (s)] (kf14 _ _) rfl ((gput_n (show Ms w wr [bg p8 (q + 1) (2) (j) (L), row 9 1 (.slice o1 (ofI 3 L).length c1) ((ofI 3 L).length) ((ofI 3 L).map Value.string), mp kS (w7.heap.size) (S)] from (hM.up 1 rfl)) (by omega) (by omega) (by decide) (by omega) ⟨fu_in hI.out hin⟩ (by decide)).mono ?_))
        rintro e w45 ⟨rfl, h_⟩
        refine ⟨_, rfl, ?_⟩
        replace hM : Ms w w45 [bg p8 (q + 1) (2) (j + 1) (L), row 9 1 (.slice o1 (ofI 3 L).length c1) ((ofI 3 L).length) ((ofI 3 L).map Value.string), mp kS (w7.heap.size) (S)] := h_
        clear h_
        (try simp only [Act.put, List.setIfInBounds_toArray, List.set_cons_zero, List.set_cons_succ])
        refine wl_nil ?_
        refine hK44 _ _ ?_
        (try clear hK44 K44)
        refine wp_seq_k (fun K46 hK46 => ?_)
        refine wl_region ?_
        refine wl_give rfl (g_move _ (.map (some (w7.heap.size))) rfl ?_)
        (try simp only [Act.put, List.setIfInBounds_toArray, List.set_cons_zero, List.set_cons_succ])
        refine wl_give rfl (g_move _ (.string (s)) rfl ?_)
        (try simp only [Act.put, List.setIfInBounds_toArray, List.set_cons_zero, List.set_cons_succ])
        refine wl_give rfl (g_look keyS Try.underlying49 Try.zeroValue4 _ _ (s) (.bool true) rfl rfl (show Ms w _ [mp kS (w7.heap.size) (S), bg p8 (q + 1) (2) (j + 1) (L), row 9 1 (.slice o1 (ofI 3 L).length c1) ((ofI 3 L).length) ((ofI 3 L).map Value.string)] from (hM.up 2 rfl)) (by rw [fu_look hI.out hin]; rfl) ?_)
        (try simp only [Act.put, List.setIfInBounds_toArray, List.set_cons_zero, List.set_cons_succ])
        refine wl_give rfl (g_unot 4 _ true rfl ?_)
        (try simp only [Act.put, List.setIfInBounds_toArray, List.set_cons_zero, List.set_cons_succ])
        refine wl_give rfl (g_move _ (.bool false) rfl ?_)
        (try simp only [Act.put, List.setIfInBounds_toArray, List.set_cons_zero, List.set_cons_succ])
        refine wl_skip rfl ?_
        (try simp only [Act.put, List.setIfInBounds_toArray, List.set_cons_zero, List.set_cons_succ])
        refine wl_skip rfl ?_
        (try simp only [Act.put, List.setIfInBounds_toArray, List.set_cons_zero, List.set_cons_succ])
        refine wl_skip rfl ?_
        (try simp only [Act.put, List.setIfInBounds_toArray, List.set_cons_zero, List.set_cons_succ])
        refine wl_skip rfl ?_
        (try simp only [Act.put, List.setIfInBounds_toArray, List.set_cons_zero, List.set_cons_succ])
        refine wl_give rfl (g_pickf _ _ _ (.bool false) rfl rfl ?_)
        (try simp only [Act.put, List.setIfInBounds_toArray, List.set_cons_zero, List.set_cons_succ])
        refine wl_nil ?_
        refine hK46 _ _ ?_
        (try clear hK46 K46)
        refine wp_cond_false rfl ?_
        refine wp_skip ?_
        refine hK38 _ _ ?_
        (try clear hK38 K38)
        refine wl_region ?_
        refine wl_give rfl (g_ia 3 _ _ .i64 (((j : Nat) : Int)) (1) (((j + 1 : Nat) : Int)) rfl rfl (hj1.out) ?_)
        (try simp only [Act.put, List.setIfInBounds_toArray, List.set_cons_zero, List.set_cons_succ])
        refine wl_give rfl (g_move _ (.int .i64 (((j + 1 : Nat) : Int))) rfl ?_)
        (try simp only [Act.put, List.setIfInBounds_toArray, List.set_cons_zero, List.set_cons_succ])
        refine wl_nil ?_
        (try simp only [Exit.then, Exit.inBlock, ↓reduceIte, Nat.reduceEqDiff])
        exact ⟨r - 1, by omega, j + 1, _, _, _, _, _, _, _, _, _, _, _, _, _, _, _, _, _, _, _, _, _, _, _, _, _, _, _, _, _, _, rfl, by omega, ⟨fu_same hI.out⟩, (((hM.up 2 rfl).up 1 rfl).up 2 rfl)⟩
      by_cases hroom : (((ofI 3 L).length : Nat) : Int) < ((q + 1 : Nat) : Int)
      · skip
        refine wp_seq_k (fun K47 hK47 => ?_)
        refine wl_region ?_
        refine wl_give rfl (g_move _ (.pointer (some ⟨p8, 0, none⟩)) rfl ?_)
        (try simp only [Act.put, List.setIfInBounds_toArray, List.set_cons_zero, List.set_cons_succ])
        refine wl_give rfl (g_move _ (.string (s)) rfl ?_)
        (try simp only [Act.put, List.setIfInBounds_toArray, List.set_cons_zero, List.set_cons_succ])
        refine wl_give rfl (g_call 14 _ _ [.pointer (some ⟨p8, 0, none⟩), .int .i64 (3), .string (s)] (kf14 _ _) rfl ((gput_0 (show Ms w wr [bg p8 (q + 1) (2) (j) (L), row 9 1 (.slice o1 (ofI 3 L).length c1) ((ofI 3 L).length) ((ofI 3 L).map Value.string), mp kS (w7.heap.size) (S)] from (hM.up 1 rfl)) (by omega) (by omega) (by decide) (by omega) ⟨fu_room hI.out hin (by omega)⟩).mono ?_))
        rintro e w48 ⟨rfl, h_⟩
        refine ⟨_, rfl, ?_⟩
        replace hM : Ms w w48 [bg p8 (q + 1) (2) (j) (L ++ [(3, s)]), row 9 1 (.slice o1 (ofI 3 L).length c1) ((ofI 3 L).length) ((ofI 3 L).map Value.string), mp kS (w7.heap.size) (S)] := h_
        clear h_
        (try simp only [Act.put, List.setIfInBounds_toArray, List.set_cons_zero, List.set_cons_succ])
        refine wl_nil ?_
        refine hK47 _ _ ?_
        (try clear hK47 K47)
        refine wp_seq_k (fun K49 hK49 => ?_)
        refine wl_region ?_
        refine wl_give rfl (g_move _ (.map (some (w7.heap.size))) rfl ?_)
        (try simp only [Act.put, List.setIfInBounds_toArray, List.set_cons_zero, List.set_cons_succ])
        refine wl_give rfl (g_move _ (.string (s)) rfl ?_)
        (try simp only [Act.put, List.setIfInBounds_toArray, List.set_cons_zero, List.set_cons_succ])
        refine wl_give rfl (g_look keyS Try.underlying49 Try.zeroValue4 _ _ (s) (.bool false) rfl rfl (show Ms w _ [mp kS (w7.heap.size) (S), bg p8 (q + 1) (2) (j) (L ++ [(3, s)]), row 9 1 (.slice o1 (ofI 3 L).length c1) ((ofI 3 L).length) ((ofI 3 L).map Value.string)] from (hM.up 2 rfl)) (by rw [fu_out hI.out hin]; rfl) ?_)
        (try simp only [Act.put, List.setIfInBounds_toArray, List.set_cons_zero, List.set_cons_succ])
        refine wl_give rfl (g_unot 4 _ false rfl ?_)
        (try simp only [Act.put, List.setIfInBounds_toArray, List.set_cons_zero, List.set_cons_succ])
        refine wl_give rfl (g_move _ (.bool true) rfl ?_)
        (try simp only [Act.put, List.setIfInBounds_toArray, List.set_cons_zero, List.set_cons_succ])
        refine wl_give rfl (g_move _ (.slice o1 ((ofI 3 L).length) (c1)) rfl ?_)
        (try simp only [Act.put, List.setIfInBounds_toArray, List.set_cons_zero, List.set_cons_succ])
        refine wl_give rfl (g_len _ 36 9 (o1) ((ofI 3 L).length) (c1) ((((ofI 3 L).length : Nat) : Int)) Try.underlying36 rfl rfl ?_)
        (try simp only [Act.put, List.setIfInBounds_toArray, List.set_cons_zero, List.set_cons_succ])
        refine wl_give rfl (g_move _ (.int .i64 (((q + 1 : Nat) : Int))) rfl ?_)
        (try simp only [Act.put, List.setIfInBounds_toArray, List.set_cons_zero, List.set_cons_succ])
        refine wl_give rfl (g_ilss 3 _ _ .i64 ((((ofI 3 L).length : Nat) : Int)) (((q + 1 : Nat) : Int)) true rfl rfl (decide_eq_true hroom) ?_)
        (try simp only [Act.put, List.setIfInBounds_toArray, List.set_cons_zero, List.set_cons_succ])
        refine wl_give rfl (g_pickt _ _ _ (.bool true) rfl rfl ?_)
        (try simp only [Act.put, List.setIfInBounds_toArray, List.set_cons_zero, List.set_cons_succ])
        refine wl_nil ?_
        refine hK49 _ _ ?_
        (try clear hK49 K49)
        refine wp_cond_true rfl ?_
        refine wp_seq_k (fun K50 hK50 => ?_)
        refine wl_region ?_
        refine wl_give rfl (g_move _ (.map (some (w7.heap.size))) rfl ?_)
        (try simp only [Act.put, List.setIfInBounds_toArray, List.set_cons_zero, List.set_cons_succ])
        refine wl_give rfl (g_move _ (.string (s)) rfl ?_)
        (try simp only [Act.put, List.setIfInBounds_toArray, List.set_cons_zero, List.set_cons_succ])
        refine wl_give rfl (g_mup keyS Try.underlying49 _ _ _ (s) (.bool true) rfl rfl rfl (show Ms w w48 [mp kS (w7.heap.size) (S), bg p8 (q + 1) (2) (j) (L ++ [(3, s)]), row 9 1 (.slice o1 (ofI 3 L).length c1) ((ofI 3 L).length) ((ofI 3 L).map Value.string)] from (hM.up 2 rfl)) ?_)
        intro w51 h_
        replace hM : Ms w w51 [mp kS (w7.heap.size) (mput (S) (s) (.bool true)), bg p8 (q + 1) (2) (j) (L ++ [(3, s)]), row 9 1 (.slice o1 (ofI 3 L).length c1) ((ofI 3 L).length) ((ofI 3 L).map Value.string)] := h_
        clear h_
        (try simp only [Act.put, List.setIfInBounds_toArray, List.set_cons_zero, List.set_cons_succ])
        refine wl_nil ?_
        refine hK50 _ _ ?_
        (try clear hK50 K50)
        refine wl_region ?_
        refine wl_give rfl (g_move _ (.slice o1 ((ofI 3 L).length) (c1)) rfl ?_)
        (try simp only [Act.put, List.setIfInBounds_toArray, List.set_cons_zero, List.set_cons_succ])
        refine wl_give rfl (g_move _ (.string (s)) rfl ?_)
        (try simp only [Act.put, List.setIfInBounds_toArray, List.set_cons_zero, List.set_cons_succ])
        refine wl_give rfl (g_bs1 36 9 Try.underlying36 szof9 _ Try.zeroValue9 rfl _ (.string (s)) rfl rfl hM ?_)
        intro w52 h_
        replace hM : Ms w w52 [blk (w51.heap.size) [.string (s)] 9, mp kS (w7.heap.size) (mput (S) (s) (.bool true)), bg p8 (q + 1) (2) (j) (L ++ [(3, s)]), row 9 1 (.slice o1 (ofI 3 L).length c1) ((ofI 3 L).length) ((ofI 3 L).map Value.string)] := h_
        clear h_
        (try simp only [Act.put, List.setIfInBounds_toArray, List.set_cons_zero, List.set_cons_succ])
        refine wl_give rfl (g_apS _ _ (.slice o1 ((ofI 3 L).length) (c1)) ((ofI 3 L).length) ((ofI 3 L).map Value.string) (w51.heap.size) 1 ([.string (s)]) 9 rfl rfl (show Ms w w52 [row 9 1 (.slice o1 (ofI 3 L).length c1) ((ofI 3 L).length) ((ofI 3 L).map Value.string), blk (w51.heap.size) [.string (s)] 9, mp kS (w7.heap.size) (mput (S) (s) (.bool true)), bg p8 (q + 1) (2) (j) (L ++ [(3, s)])] from (hM.up 3 rfl)) rfl (by simp [Value.oneCell']) (by omega) ?_)
        intro v54 w53 h_
        replace hM : Ms w w53 [row 9 1 v54 ((ofI 3 L).length + 1) ((ofI 3 L).map Value.string ++ [.string (s)]), blk (w51.heap.size) [.string (s)] 9, mp kS (w7.heap.size) (mput (S) (s) (.bool true)), bg p8 (q + 1) (2) (j) (L ++ [(3, s)])] := h_
        clear h_
        (try simp only [Act.put, List.setIfInBounds_toArray, List.set_cons_zero, List.set_cons_succ])
        refine wl_give rfl (g_assign _ (v54) rfl ?_)
        (try simp only [Act.put, List.setIfInBounds_toArray, List.set_cons_zero, List.set_cons_succ])
        refine wl_nil ?_
        refine hK38 _ _ ?_
        (try clear hK38 K38)
        refine wl_region ?_
        refine wl_give rfl (g_ia 3 _ _ .i64 (((j : Nat) : Int)) (1) (((j + 1 : Nat) : Int)) rfl rfl (hj1.out) ?_)
        (try simp only [Act.put, List.setIfInBounds_toArray, List.set_cons_zero, List.set_cons_succ])
        refine wl_give rfl (g_move _ (.int .i64 (((j + 1 : Nat) : Int))) rfl ?_)
        (try simp only [Act.put, List.setIfInBounds_toArray, List.set_cons_zero, List.set_cons_succ])
        refine wl_nil ?_
        (try simp only [Exit.then, Exit.inBlock, ↓reduceIte, Nat.reduceEqDiff])
        have e7 : ofI 3 (L ++ [(3, s)]) = ofI 3 L ++ [s] := by rw [ofI_snoc, if_pos rfl]
        have h8 := bg_more (Nat.le_succ j) ((((hM.up 1 rfl).up 2 rfl).up 2 rfl).up 3 rfl)
        have h9 : Ms w w53 [row 9 1 v54 ((ofI 3 (L ++ [(3, s)])).length) ((ofI 3 (L ++ [(3, s)])).map Value.string), bg p8 (q + 1) (2) (j + 1) (L ++ [(3, s)]), mp kS (w7.heap.size) (mput (S) (s) (.bool true))] := by rw [e7, List.map_append, List.length_append]; exact (h8.erase 3).up 1 rfl
        exact ⟨r - 1, by omega, j + 1, _, _, _, _, _, _, _, _, _, _, _, _, _, _, _, _, _, _, _, _, _, _, _, _, _, _, _, _, _, _, rfl, by omega, ⟨fu_add hI.out hin⟩, h9⟩
      · skip
        refine wp_seq_k (fun K55 hK55 => ?_)
        refine wl_region ?_
        refine wl_give rfl (g_move _ (.pointer (some ⟨p8, 0, none⟩)) rfl ?_)
        (try simp only [Act.put, List.setIfInBounds_toArray, List.set_cons_zero, List.set_cons_succ])
        refine wl_give rfl (g_move _ (.string (s)) rfl ?_)
        (try simp only [Act.put, List.setIfInBounds_toArray, List.set_cons_zero, List.set_cons_succ])
        refine wl_give rfl (g_call 14 _ _ [.pointer (some ⟨p8, 0, none⟩), .int .i64 (3), .string (s)] (kf14 _ _) rfl ((gput_n (show Ms w wr [bg p8 (q + 1) (2) (j) (L), row 9 1 (.slice o1 (ofI 3 L).length c1) ((ofI 3 L).length) ((ofI 3 L).map Value.string), mp kS (w7.heap.size) (S)] from (hM.up 1 rfl)) (by omega) (by omega) (by decide) (by omega) ⟨fu_full hI.out hin (by omega)⟩ (by decide)).mono ?_))
        rintro e w56 ⟨rfl, h_⟩
        refine ⟨_, rfl, ?_⟩
        replace hM : Ms w w56 [bg p8 (q + 1) (2) (j + 1) (L), row 9 1 (.slice o1 (ofI 3 L).length c1) ((ofI 3 L).length) ((ofI 3 L).map Value.string), mp kS (w7.heap.size) (S)] := h_
        clear h_
        (try simp only [Act.put, List.setIfInBounds_toArray, List.set_cons_zero, List.set_cons_succ])
        refine wl_nil ?_
        refine hK55 _ _ ?_
        (try clear hK55 K55)
        refine wp_seq_k (fun K57 hK57 => ?_)
        refine wl_region ?_
        refine wl_give rfl (g_move _ (.map (some (w7.heap.size))) rfl ?_)
        (try simp only [Act.put, List.setIfInBounds_toArray, List.set_cons_zero, List.set_cons_succ])
        refine wl_give rfl (g_move _ (.string (s)) rfl ?_)
        (try simp only [Act.put, List.setIfInBounds_toArray, List.set_cons_zero, List.set_cons_succ])
        refine wl_give rfl (g_look keyS Try.underlying49 Try.zeroValue4 _ _ (s) (.bool false) rfl rfl (show Ms w _ [mp kS (w7.heap.size) (S), bg p8 (q + 1) (2) (j + 1) (L), row 9 1 (.slice o1 (ofI 3 L).length c1) ((ofI 3 L).length) ((ofI 3 L).map Value.string)] from (hM.up 2 rfl)) (by rw [fu_out hI.out hin]; rfl) ?_)
        (try simp only [Act.put, List.setIfInBounds_toArray, List.set_cons_zero, List.set_cons_succ])
        refine wl_give rfl (g_unot 4 _ false rfl ?_)
        (try simp only [Act.put, List.setIfInBounds_toArray, List.set_cons_zero, List.set_cons_succ])
        refine wl_give rfl (g_move _ (.bool true) rfl ?_)
        (try simp only [Act.put, List.setIfInBounds_toArray, List.set_cons_zero, List.set_cons_succ])
        refine wl_give rfl (g_move _ (.slice o1 ((ofI 3 L).length) (c1)) rfl ?_)
        (try simp only [Act.put, List.setIfInBounds_toArray, List.set_cons_zero, List.set_cons_succ])
        refine wl_give rfl (g_len _ 36 9 (o1) ((ofI 3 L).length) (c1) ((((ofI 3 L).length : Nat) : Int)) Try.underlying36 rfl rfl ?_)
        (try simp only [Act.put, List.setIfInBounds_toArray, List.set_cons_zero, List.set_cons_succ])
        refine wl_give rfl (g_move _ (.int .i64 (((q + 1 : Nat) : Int))) rfl ?_)
        (try simp only [Act.put, List.setIfInBounds_toArray, List.set_cons_zero, List.set_cons_succ])
        refine wl_give rfl (g_ilss 3 _ _ .i64 ((((ofI 3 L).length : Nat) : Int)) (((q + 1 : Nat) : Int)) false rfl rfl (decide_eq_false hroom) ?_)
        (try simp only [Act.put, List.setIfInBounds_toArray, List.set_cons_zero, List.set_cons_succ])
        refine wl_give rfl (g_pickt _ _ _ (.bool false) rfl rfl ?_)
        (try simp only [Act.put, List.setIfInBounds_toArray, List.set_cons_zero, List.set_cons_succ])
        refine wl_nil ?_
        refine hK57 _ _ ?_
        (try clear hK57 K57)
        refine wp_cond_false rfl ?_
        refine wp_skip ?_
        refine hK38 _ _ ?_
        (try clear hK38 K38)
        refine wl_region ?_
        refine wl_give rfl (g_ia 3 _ _ .i64 (((j : Nat) : Int)) (1) (((j + 1 : Nat) : Int)) rfl rfl (hj1.out) ?_)
        (try simp only [Act.put, List.setIfInBounds_toArray, List.set_cons_zero, List.set_cons_succ])
        refine wl_give rfl (g_move _ (.int .i64 (((j + 1 : Nat) : Int))) rfl ?_)
        (try simp only [Act.put, List.setIfInBounds_toArray, List.set_cons_zero, List.set_cons_succ])
        refine wl_nil ?_
        (try simp only [Exit.then, Exit.inBlock, ↓reduceIte, Nat.reduceEqDiff])
        exact ⟨r - 1, by omega, j + 1, _, _, _, _, _, _, _, _, _, _, _, _, _, _, _, _, _, _, _, _, _, _, _, _, _, _, _, _, _, _, rfl, by omega, ⟨fu_same hI.out⟩, (((hM.up 2 rfl).up 1 rfl).up 2 rfl)⟩
  · skip
    refine wp_seq_k (fun K58 hK58 => ?_)
    refine wl_region ?_
    refine wl_give rfl (g_ilss 3 _ _ .i64 (((j : Nat) : Int)) (((n : Nat) : Int)) false rfl rfl (decide_eq_false h1) ?_)
    (try simp only [Act.put, List.setIfInBounds_toArray, List.set_cons_zero, List.set_cons_succ])
    refine wl_nil ?_
    refine hK58 _ _ ?_
    (try clear hK58 K58)
    refine wp_seq_k (fun K59 hK59 => ?_)
    refine wp_cond_false rfl ?_
    refine wp_exit ?_
    exact hcut j S L _ _ _ _ _ _ _ _ _ _ _ _ _ _ _ _ _ _ _ _ _ _ _ _ _ _ _ _ _ _ _ _ hI (by omega) hM
theorem rem64 (a : Int) (h : 0 ≤ a ∧ a < 256) : ∃ q : Nat, a.tmod 64 = ((q : Nat) : Int) ∧ q < 64 := by
  rw [Int.tmod_eq_emod_of_nonneg h.1]
  exact ⟨(a % 64).toNat, by omega, by omega⟩
theorem walk (a : Int) (ao : Option Addr) (n cap : Nat) (w : World) (h : 0 ≤ a ∧ a < 256) (hl : LV OkS w ao n) (h1 : n ≤ cap) (h2 : cap ≤ maxLen) : Calls Try.prog 6 #[.int .u8 a, .slice ao n cap] w fun e w' => e = .returned (.bool true) ∧ Below w.heap.size w w' := by
  obtain ⟨q, hq, hq2⟩ := rem64 a h
  by_cases hn : (100 : Int) < ((n : Nat) : Int)
  · exact walk_many a ao n cap q w hl ⟨hq⟩ ⟨wrap_id _ (by omega) (by omega)⟩ ⟨by rw [wrap_id _ (by omega) (by omega)]; omega⟩ hq2 hn
  · exact walk_few a ao n cap q w hl ⟨hq⟩ ⟨wrap_id _ (by omega) (by omega)⟩ ⟨by rw [wrap_id _ (by omega) (by omega)]; omega⟩ hq2 hn
end Go.Proofs.Ytpkjocibgmjhdaa.bufferFull
